package steps_test

import (
	"fmt"
	"math/rand"
	"reflect"
	"strconv"
	"strings"
	"testing"

	"heriot/api"
	"heriot/samples"
	"heriot/steps"
)

func times(count int, text string) string { return strings.Repeat(text, count) }

// checkFirst looks at what all functions say of a program that is refused, or taken, ahead of its bodies.
func checkFirst(t *testing.T, p api.Program, want api.Errno) {
	t.Helper()
	if e, spot := steps.Check(p); e != want || !sameSpot(spot, api.Spot{}) {
		t.Errorf("Check: %d %v, not %d: %s", e, spot, want, short(fmt.Sprintf("%.1500v", p)))
	}
	if want == api.OK {
		return
	}
	if got := steps.Erase(p); got.Datas != nil || got.Exns != nil || got.Funs != nil || got.Main != 0 {
		t.Errorf("Erase: a program")
	}
	if got := steps.Run(p, []int64{0}, 9); !isSameRun(got, stuck) {
		t.Errorf("Run: %+v", got)
	}
	if got, e := steps.Frames(p, []int64{0}, 9, 1); e != want || got != nil {
		t.Errorf("Frames: %v %d", got, e)
	}
}

func checkText(t *testing.T, text string, want api.Errno) {
	t.Helper()
	checkFirst(t, samples.Program(text), want)
}

// TestMostNodes: what is a node, and how many there may be.
func TestMostNodes(t *testing.T) {
	t.Parallel()
	for own, nodes := range map[string]int{
		"":                                     0,
		"data a 0 = A | B; data b 1 = C;":      0,
		"exn a; exn b;":                        0,
		"data a 1 = A v0 | B (ref (* v0 v0));": 5,
		"fun f 0 1 0 {0} ((* int int @0)) int [1 int := get #0 0; end @0; value 1];":                                    10,
		"fun f () int [9 int := int; value 9];":                                                                         5,
		"fun f () int [new @0; end @0; 9 int := int; value 9];":                                                         9,
		"fun f 2 1 0 {0} (int) int [9 int := call .0 (int (ref v1 @0)) @0 last 0; value 9];":                            9,
		"fun f (bool) int [3 int := if 0 [1 int := int; value 1] [2 int := int; value 2]; 4 int := int; value 4];":      14,
		"fun f (int) int [9 int := handle [8 int := int; value 8] [bind 2; value 2] [bind 3; value 3]; value 9];":       11,
		"fun f 0 1 0 {0} (int) (-> int int @0) [9 (-> int int @0) := fn @0 [bind 1; value 0]; end @0; value 9];":        13,
		"fun f 0 3 2 {0 1 2 e0 e1} (int) int [9 (d0 @0 {0 1 2 e0 e1}) := raise .0 0; end @2; end @1; end @0; value 0];": 0,
	} {
		if strings.Contains(own, "d0") {
			own, nodes = "data a 0 = A;"+own, 12
		}
		filled := own + someMain + "data fill 0 = F " + times(api.MaxNodes-nodes-4, "int ")
		checkText(t, filled+";", api.OK)
		checkText(t, filled+"int;", api.ErrBig)
	}
	// Programs that are too big are that ahead of all else.
	count := (api.MaxNodes - 3) / 2
	checkText(t, "fun main () bool ["+times(count, "new @0; ")+"value 0]", api.ErrShape)
	checkText(t, "fun main () bool ["+times(count+1, "new @0; ")+"value 0]", api.ErrBig)
	checkText(t, "fun main ("+times(api.MaxNodes-3, "int ")+") int [value 0]", api.ErrShape)
	checkText(t, "fun main ("+times(api.MaxNodes-2, "int ")+") int [value 0]", api.ErrBig)
	checkText(t, times(api.MaxNodes/3, "fun f () int [value 0];")+"data a 0 = A int; fun main () bool [value 0]", api.ErrBig)
}

// nestedIfs are blocks inside each other, so many, in main.
func nestedIfs(depth int) string {
	text := "value 0"
	for i := range depth - 1 {
		v := strconv.Itoa(2 * (i + 1))
		text = strconv.Itoa(2*i+1) + " bool := bool; " + v + " int := if " + strconv.Itoa(2*i+1) + " [" + text + "] [value 0]; value " + v
	}
	return "fun main (int) int [" + text + "]"
}

// nestedRefs is a type that is nested so deep, in region 0.
func nestedRefs(depth int) string {
	return times(depth-1, "(ref ") + "int" + times(depth-1, " @0)")
}

func TestDeepest(t *testing.T) {
	t.Parallel()
	checkText(t, nestedIfs(api.MaxDepth), api.OK)
	checkText(t, nestedIfs(api.MaxDepth+1), api.ErrBig)
	most, more := nestedRefs(api.MaxDepth), nestedRefs(api.MaxDepth+1)
	for _, text := range []string{
		"data a 0 = A TYPE;",
		"fun f 0 1 0 {} (TYPE) int [1 int := int; value 1];",
		"fun f 0 1 0 {} (int) TYPE [1 TYPE := raise .0 0; value 1];",
		"fun f 0 1 0 {} (int) int [1 TYPE := raise .0 0; value 0];",
		"fun f 1 (int) int [1 int := int; value 1]; fun g 0 1 0 {} (int) int [1 int := call .0 (TYPE) 0; value 1];",
	} {
		checkText(t, strings.ReplaceAll(text, "TYPE", most)+someMain, api.OK)
		checkText(t, strings.ReplaceAll(text, "TYPE", more)+someMain, api.ErrBig)
	}
	checkText(t, "fun main ("+more+") bool [value 7]", api.ErrBig)
}

// TestEndless: plain data whose lists have themselves as parts.
func TestEndless(t *testing.T) {
	t.Parallel()
	parts := make([]api.Type, 2)
	parts[0] = api.Type{Kind: api.TRef, Args: parts}
	parts[1] = parts[0]
	blocks := make([]api.Block, 1)
	blocks[0].Steps = []api.Step{{Op: api.OIf, Blocks: blocks}}
	fields := api.Data{Cons: []api.Con{{Fields: parts}}}
	for _, f := range []api.Fun{{Params: parts}, {Result: parts[0]}, {Body: blocks[0]}, {Body: api.Block{Steps: []api.Step{{Type: parts[0]}}}}, {Body: api.Block{Steps: []api.Step{{Types: parts}}}}} {
		p := samples.Program(someMain)
		p.Funs = append(p.Funs, f)
		checkFirst(t, p, api.ErrBig)
	}
	p := samples.Program(someMain)
	p.Datas = append(p.Datas, fields)
	checkFirst(t, p, api.ErrBig)
	checkFirst(t, api.Program{}, api.ErrShape)
}

// TestNumbers: the greatest numbers that there may be, and the first ones that there may not.
func TestNumbers(t *testing.T) {
	t.Parallel()
	const last, more = "16383", "16384"
	for text, want := range map[string]api.Errno{
		"fun f N N N {} (int) int [value 0];":                                                            api.OK,
		"fun main (int) int [V int := int; value V];":                                                    api.OK,
		"fun main (int) int [new @V; end @V; value 0];":                                                  api.OK,
		"fun main (int) int [1 int := handle [value 0] [bind V; value V]; value 1];":                     api.OK,
		"fun f 0 N N {V eV} (int) int [end @V; value 0];":                                                api.OK,
		"fun f 0 N N {} ((-> int int @V {V eV}) int) int [value 1];":                                     api.OK,
		"fun f N 0 0 {} (vV int) int [value 1];":                                                         api.OK,
		"fun main (int) int [new @V; 1 int := handle {V} [value 0] [bind 2; end @V; value 2]; value 1];": api.OK,
	} {
		fits := strings.NewReplacer("N", more, "V", last).Replace(text)
		if !strings.Contains(text, "fun main") {
			fits += someMain
		}
		checkText(t, fits, want)
		not := strings.NewReplacer("N", "16385", "V", more).Replace(text)
		if !strings.Contains(text, "fun main") {
			not += someMain
		}
		checkText(t, not, api.ErrShape)
		checkText(t, strings.NewReplacer("N", "-1", "V", "-1").Replace(text)+map[bool]string{false: someMain}[strings.Contains(text, "fun main")], api.ErrShape)
	}
	// A step may have a type variable that there is not: then it is not in scope.
	for number, want := range map[string]api.Errno{"0": api.OK, "1": api.ErrScope, "16384": api.ErrScope, "9223372036854775807": api.ErrScope, "-1": api.ErrShape} {
		inFunIs(t, "1 0 0 {} (int) int [1 v"+number+" := raise .0 0; value 0]", want, map[bool][]int{true: {0}}[want == api.ErrScope]...)
	}
}

// tuple is a type of so many nodes.
func tuple(nodes int) string { return "(* " + times(nodes-1, "int ") + "@0)" }

// TestTooLarge: types of what a case binds that stand nowhere in the program.
func TestTooLarge(t *testing.T) {
	t.Parallel()
	const data = "data box 1 = Box (ref v0); data two 1 = Two (* v0 v0) | No; data deep 1 = Deep (ref (ref v0)); "
	open := func(of, arg, blocks string) api.Program {
		return samples.Program(data + "fun f 0 1 0 {0} ((" + of + " " + arg + " @0) int) int [end @0; 9 int := case 0 " + blocks + "; value 9]; " + someMain)
	}
	const one, two = "[bind 2; value 1]", "[bind 2; value 1] [value 1]"
	big, live := api.Spot{Path: []int{1}}, api.Spot{Path: []int{1}}
	for _, c := range []struct {
		p api.Program
		e api.Errno
	}{
		// It is found out ahead of what is live.
		{open("d0", tuple(255), one), api.ErrLive}, {open("d0", tuple(256), one), api.ErrBig},
		{open("d1", tuple(127), two), api.ErrLive}, {open("d1", tuple(128), two), api.ErrBig},
		{open("d2", nestedRefs(62), one), api.ErrLive}, {open("d2", nestedRefs(63), one), api.ErrBig},
		// But behind what is in scope, and behind types.
		{open("d1", tuple(128), one), api.ErrType}, {open("d1", tuple(128), "[bind 2; value 1] [bind 3; value 1]"), api.ErrType},
		{open("d1", tuple(128), "[bind 1; value 1] [value 1]"), api.ErrScope},
	} {
		at := big
		if c.e == api.ErrLive {
			at = live
		}
		checkIs(t, c.p, c.e, at)
		run := steps.Run(c.p, []int64{4}, 9)
		if ok := run.Result.Fault == api.FNone; ok != (c.e == api.ErrLive) {
			t.Errorf("Run: %+v of a program with %d", run, c.e)
		}
		if bare := steps.Erase(c.p); len(bare.Funs) != 2 {
			t.Errorf("Erase: %d functions", len(bare.Funs))
		}
	}
}

// copied copies plain data at all depths.
func copied(v reflect.Value) reflect.Value {
	out := reflect.New(v.Type()).Elem()
	switch v.Kind() {
	case reflect.Struct:
		for i := range v.NumField() {
			out.Field(i).Set(copied(v.Field(i)))
		}
	case reflect.Slice:
		if !v.IsNil() {
			out.Set(reflect.MakeSlice(v.Type(), v.Len(), v.Len()))
		}
		for i := range v.Len() {
			out.Index(i).Set(copied(v.Index(i)))
		}
	default:
		out.Set(v)
	}
	return out
}

// spoil changes all numbers and texts of plain data.
func spoil(v reflect.Value) {
	switch v.Kind() {
	case reflect.Struct:
		for i := range v.NumField() {
			spoil(v.Field(i))
		}
	case reflect.Slice:
		for i := range v.Cap() {
			spoil(v.Slice(0, v.Cap()).Index(i))
		}
	case reflect.Int, reflect.Int64:
		v.SetInt(v.Int() + 77)
	case reflect.String:
		v.SetString(v.String() + "!")
	}
}

// TestMemory: no argument is changed, and no result shares memory with one, or with another result.
func TestMemory(t *testing.T) {
	t.Parallel()
	for seed := range rounds / 4 {
		m := sample(seed)
		before := copied(reflect.ValueOf(m.Program)).Interface().(api.Program)
		args := []int64{3, 4}
		run := steps.Run(m.Program, args, 60)
		again := copied(reflect.ValueOf(run)).Interface().(api.Run)
		frames, _ := steps.Frames(m.Program, args, 60, len(run.Events))
		flat := steps.Erase(m.Program)
		shown := samples.Write(flat)
		for _, v := range []any{&run, &frames} {
			spoil(reflect.ValueOf(v).Elem())
		}
		if !reflect.DeepEqual(m.Program, before) || args[0] != 3 || args[1] != 4 {
			t.Fatalf("%d: an argument has changed", seed)
		}
		if samples.Write(flat) != shown || !isSameRun(steps.Run(m.Program, args, 60), again) {
			t.Fatalf("%d: a result has changed", seed)
		}
		spoil(reflect.ValueOf(&flat).Elem())
		if !reflect.DeepEqual(m.Program, before) {
			t.Fatalf("%d: Erase shares memory with its argument", seed)
		}
		// What belongs to the caller may change, too: the result stays as it is.
		bare := steps.Erase(m.Program)
		spoil(reflect.ValueOf(&m.Program).Elem())
		if samples.Write(bare) != shown {
			t.Fatalf("%d: Erase shares memory with its argument", seed)
		}
	}
	// An error's place is new memory.
	p := samples.Program(inMain("1 bool := less 0 0; 2 int := if 1 [3 int := int #1; 4 bool := add 3 3; value 3] [value 0]; value 2"))
	_, one := steps.Check(p)
	one.Path[0] = 7
	checkIs(t, p, api.ErrType, api.Spot{Fun: 3, Path: []int{1, 0, 1}})
}

// TestShared: parts of a program may share memory with each other.
func TestShared(t *testing.T) {
	t.Parallel()
	p := samples.Program(inMain("1 bool := less 0 0; new @0; 2 int := if 1 [3 int := int #1; end @0; value 3] [3 int := int #1; end @0; value 3]; value 2"))
	s := &p.Funs[3].Body.Steps[2]
	s.Blocks[1] = s.Blocks[0]
	checkIs(t, p, api.ErrScope, api.Spot{Fun: 3, Path: []int{2, 1, 0}})
}

// TestManyRegions: functions with as many regions as there may be, which are all live at many steps.
func TestManyRegions(t *testing.T) {
	t.Parallel()
	const count = 2000
	var text, ends strings.Builder
	for i := range count {
		fmt.Fprintf(&text, "new @%d; ", i)
		fmt.Fprintf(&ends, "end @%d; ", i)
	}
	text.WriteString("1 bool := less 0 0; ")
	for i := range 1000 {
		fmt.Fprintf(&text, "%d int := if 1 [value 0] [value 0]; ", 2+i)
	}
	p := samples.Program(inMain(text.String() + ends.String() + "value 0"))
	if e, spot := steps.Check(p); e != api.OK {
		t.Errorf("Check: %d %v", e, spot)
	}
	run := steps.Run(p, []int64{1}, 9)
	if len(run.Events) != 2*count || run.Left != 0 {
		t.Errorf("Run: %d events, left %d", len(run.Events), run.Left)
	}
	frames, e := steps.Frames(p, []int64{1}, 9, count)
	if e != api.OK || len(frames) != 1 || len(frames[0].Regions) != count {
		t.Errorf("Frames: %d", e)
	}
}

// TestDeepRuns: calls nested as deep as there is fuel, each of which owns a region, and an exception that leaves them all.
func TestDeepRuns(t *testing.T) {
	t.Parallel()
	const down = `fun down (int) int [new @0; 1 (ref int @0) := ref 0 @0; 2 int := int #1; 3 bool := less 0 2; 4 int := if 3 [5 int := raise .3 0; value 5] [6 int := sub 0 2; 7 int := call .3 6; value 7]; end @0; value 4];`
	p := samples.Program(library + down + "fun main (int) int [1 int := call .3 0; value 1]")
	const depth = api.MaxFuel - 1
	run := steps.Run(p, []int64{depth}, plenty)
	if want := (api.Result{Fault: api.FExn, Exn: "no", Ticks: api.MaxFuel}); !isSameResult(run.Result, want) || run.Peak != api.MaxFuel || run.Left != 0 || len(run.Events) != 3*api.MaxFuel {
		t.Errorf("%+v, peak %d, left %d, %d events", run.Result, run.Peak, run.Left, len(run.Events))
	}
	run = steps.Run(p, []int64{depth + 1}, plenty)
	if want := (api.Result{Fault: api.FFuel, Ticks: api.MaxFuel}); !isSameResult(run.Result, want) || run.Peak != api.MaxFuel || run.Left != api.MaxFuel {
		t.Errorf("%+v, peak %d, left %d", run.Result, run.Peak, run.Left)
	}
	some := rand.New(rand.NewSource(1))
	for range 3 {
		k := 2*api.MaxFuel + 1 + some.Intn(api.MaxFuel)
		frames, e := steps.Frames(p, []int64{depth}, plenty, k)
		// The instances end from the greatest on; the frame of the last one that has ended is there still.
		left := 3*api.MaxFuel - k
		if e != api.OK || len(frames) != left+2 || len(frames[left+1].Instances) != 0 || frames[left].Fun == 3 && frames[left].Instances[0] != left-1 {
			t.Errorf("event %d: %d frames, %d", k, len(frames), e)
		}
	}
}
