package samples_test

import (
	"reflect"
	"slices"
	"testing"

	"heriot/api"
	"heriot/code"
	"heriot/flat"
	"heriot/outline"
	"heriot/samples"
	"heriot/steps"
	"heriot/types"
	"heriot/words"
)

// programOf is the program of a number, if its types are found.
func programOf(t *testing.T, number int) (api.Typed, bool) {
	t.Helper()
	return typedOf(t, number, samples.Texts(number))
}

func typedOf(t *testing.T, number int, list []string) (api.Typed, bool) {
	t.Helper()
	var units []api.Unit
	for _, text := range list {
		u, r := words.Read(text)
		if r.E != api.OK {
			t.Fatalf("%d: %+v", number, r)
		}
		units = append(units, u)
	}
	typed, r := types.Infer(units)
	return typed, r.E == api.OK
}

func TestTexts(t *testing.T) {
	checkTexts(t, samples.Texts)
	checkTexts(t, samples.Recursive)
}

// checkTexts looks at units by chance, each of which is made again.
func checkTexts(t *testing.T, make func(int) []string) {
	t.Helper()
	const count = 100
	found, texts := 0, map[string]bool{}
	for number := range count {
		list := make(number)
		if _, ok := typedOf(t, number, list); ok {
			found++
		}
		if !reflect.DeepEqual(list, make(number)) {
			t.Errorf("%d: not the same again", number)
		}
		texts[list[len(list)-1]] = true
	}
	if found < count*9/10 || len(texts) < count*9/10 {
		t.Errorf("%d have types, %d are different", found, len(texts))
	}
}

// isSame tells whether programs are the same; variables of data types have no names in the notation, and lists without elements may be nil.
func isSame(a, b api.Program) bool {
	return samples.Write(a) == samples.Write(b) && reflect.DeepEqual(a.Exns, b.Exns) && a.Main == b.Main
}

func TestNotation(t *testing.T) {
	for number := range 50 {
		typed, ok := programOf(t, number)
		if !ok {
			continue
		}
		p, e := flat.Flatten(typed)
		got := samples.Program(samples.Write(p))
		if e != api.OK || !isSame(got, p) || flat.Valid(got) != api.OK {
			t.Errorf("%d: %s, not %s", number, samples.Write(got), samples.Write(p))
		}
	}
	const text = `data list 1 = Nil | Cons v0 (d0 v0 {e0});
exn no;
fun f 1 3 1 {0 2 e0} (v0 (-> int v0 @1 {0 1 e0})) (ref v0 @2) [new @4; 2 (d0 v0 @4 {1}) := make .1 0 1 @4; 3 int := call .0 (int v0) {0} {1 e0} @4 @2 keep last 2; 4 int := handle {0 3} [value 0] [bind 5; value 5] [exn 3; bind 6; value 6]; end @4; value 2];
fun main 0 0 0 {} () int [0 int := int #-5; value 0];`
	p := samples.Program(text)
	if got := samples.Write(p); got != text {
		t.Errorf("%s", got)
	}
	s := p.Funs[0].Body.Steps
	want := api.Step{Op: api.OCall, Out: 3, Args: []int{2}, Types: []api.Type{{}, {Kind: api.TVar}}, Effects: []api.Effect{{Regions: []int{0}}, {Regions: []int{1}, Vars: []int{0}}}, Regions: []int{4, 2}, Modes: []int{api.Keep, api.Last}}
	if s[2].Effects[0].Vars == nil && !reflect.DeepEqual(s[2], want) {
		t.Errorf("%+v, not %+v", s[2], want)
	}
	if s[0].Op != api.ONew || s[0].Out != -1 || s[0].Region != 4 || !reflect.DeepEqual(s[3].Keep, []int{0, 3}) || p.Main != 1 || len(p.Exns) != 4 {
		t.Errorf("%+v", p)
	}
}

func TestRegions(t *testing.T) {
	checkRegions(t, samples.Regions)
	checkRegions(t, samples.Mutual)
	checkRegions(t, samples.Straight)
}

// TestStraight: outside of lambdas nothing is chosen or applied, no region is handed over, and functions call those ahead.
func TestStraight(t *testing.T) {
	for number := range 200 {
		p := samples.Straight(number)
		for i, f := range p.Funs {
			for _, s := range f.Body.Steps {
				if slices.Contains([]int{api.OIf, api.OCase, api.OHandle, api.OApply}, s.Op) || slices.Contains(s.Modes, api.Last) {
					t.Errorf("%d: operation %d with the modes %v", number, s.Op, s.Modes)
				}
			}
			for _, s := range outline.Steps(&f.Body) {
				if s.Op == api.OCall && s.Code >= i {
					t.Errorf("%d: function %d calls %d", number, i, s.Code)
				}
			}
		}
	}
}

// checkRegions looks at region programs by chance, each of which is made again.
func checkRegions(t *testing.T, make func(int) api.Program) {
	t.Helper()
	const count = 200
	texts, operations := map[string]bool{}, map[int]int{}
	for number := range count {
		p := make(number)
		text := samples.Write(p)
		texts[text] = true
		if e, spot := steps.Check(p); e != api.OK {
			t.Errorf("%d: Check: %d %v", number, e, spot)
		}
		if samples.Write(make(number)) != text || samples.Write(samples.Program(text)) != text {
			t.Errorf("%d: not the same again", number)
		}
		for _, f := range p.Funs {
			countSteps(&f.Body, operations)
		}
	}
	if len(texts) < count*9/10 || len(operations) < api.OEnd {
		t.Errorf("%d are different, with the operations %v", len(texts), operations)
	}
}

// countSteps counts the steps of a block at all depths, by their operations.
func countSteps(b *api.Block, operations map[int]int) {
	for _, s := range b.Steps {
		operations[s.Op]++
		for i := range s.Blocks {
			countSteps(&s.Blocks[i], operations)
		}
	}
}

func TestFlat(t *testing.T) {
	const count = 200
	texts, operations := map[string]bool{}, map[int]int{}
	for number := range count {
		p := samples.Flat(number)
		text := samples.Write(p)
		texts[text] = true
		if e := flat.Valid(p); e != api.OK {
			t.Errorf("%d: Valid: %d", number, e)
		}
		if samples.Write(samples.Flat(number)) != text || samples.Write(samples.Program(text)) != text {
			t.Errorf("%d: not the same again", number)
		}
		for _, f := range p.Funs {
			countSteps(&f.Body, operations)
		}
	}
	if len(texts) < count*9/10 || len(operations) < api.ONew-1 || operations[api.ONew] > 0 {
		t.Errorf("%d are different, with the operations %v", len(texts), operations)
	}
}

// TestImages: images by chance are different, and have all ops.
func TestImages(t *testing.T) {
	const count = 200
	texts, found := map[string]bool{}, map[int]bool{}
	for number := range count {
		text := samples.Image(number)
		texts[text] = true
		m, ok := code.ReadImage(samples.Bytes(text))
		if !ok {
			t.Fatalf("%d: not well-formed: %s", number, text)
		}
		if samples.Image(number) != text {
			t.Errorf("%d: not the same again", number)
		}
		for in := range code.Instructions(m.Funs) {
			found[in.Op] = true
		}
	}
	if len(texts) < count*9/10 || len(found) <= code.Return {
		t.Errorf("%d are different, with the ops %v", len(texts), found)
	}
}

// TestBytes: each sign of the notation.
func TestBytes(t *testing.T) {
	for text, want := range map[string][]byte{
		"": nil, "0 127 128 300": {0, 127, 128, 1, 172, 2}, "#0 #-1 #1 #-2 #64": {0, 1, 2, 3, 128, 1}, "'ab '": {2, 'a', 'b', 0}, "HRO HRI": {72, 82, 79, 1, 72, 82, 73, 1},
		"[] [1 [2 3] (4 5)]": {0, 3, 1, 2, 2, 3, 4, 5}, "(load 1 #2) untry (return 3)": {0, 1, 4, 15, 29, 3},
	} {
		if got := samples.Bytes(text); !slices.Equal(got, want) {
			t.Errorf("%s: %v, not %v", text, got, want)
		}
	}
}
