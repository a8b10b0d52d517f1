package machine_test

import (
	"math"
	"slices"
	"strconv"
	"strings"
	"testing"

	"heriot/api"
	"heriot/machine"
	"heriot/place"
	"heriot/samples"
	"heriot/steps"
)

// compilesTo looks at the object of a unit, in the notation of samples.Bytes, and at what the judge says.
func compilesTo(t *testing.T, p api.Program, unit int, want string) {
	t.Helper()
	got, e := machine.Compile(p, unit)
	if e != api.OK || !slices.Equal(got, samples.Bytes(want)) {
		t.Errorf("Compile of unit %d: error %d, %v, not %v (%s)", unit, e, got, samples.Bytes(want), want)
	}
	if judged := judgeCompile(p, unit); !slices.Equal(samples.Bytes(judged), samples.Bytes(want)) {
		t.Errorf("the judge: %s, not %s", judged, want)
	}
}

// bodyIs looks at the codes of a function one, which is ahead of a main.
func bodyIs(t *testing.T, data, fun, head, codes string) {
	t.Helper()
	p := samples.Program(data + " fun one " + fun + "; fun main () int [0 int := int #7; value 0];")
	if e, spot := steps.Check(p); e != api.OK {
		t.Fatalf("Check: %d %v: %s", e, spot, fun)
	}
	exns := ""
	if len(p.Exns) > 3 {
		exns = "(3 '" + p.Exns[3] + ")"
	}
	compilesTo(t, p, 0, "HRO 0 0 [('one "+head+" ["+codes+"]) ('main 0 1 0 [] [[(load 0 #7) (return 0)]])] ["+exns+"] 2")
}

// TestExamples are the chapter's.
func TestExamples(t *testing.T) {
	if got := samples.Bytes("300 #-3"); !slices.Equal(got, []byte{172, 2, 5}) {
		t.Errorf("300 and -3: %v", got)
	}
	p := samples.Program("fun main () int [0 int := int #7; value 0];")
	object := []byte{72, 82, 79, 1, 0, 0, 1, 4, 'm', 'a', 'i', 'n', 0, 1, 0, 0, 1, 2, 0, 0, 14, 29, 0, 0, 1}
	if got, e := machine.Compile(p, 0); e != api.OK || !slices.Equal(got, object) {
		t.Errorf("Compile: error %d, %v", e, got)
	}
	image := []byte{72, 82, 73, 1, 1, 4, 'm', 'a', 'i', 'n', 0, 1, 0, 0, 1, 2, 0, 0, 14, 29, 0, 0, 0}
	if got, e := machine.Link([][]byte{object}); e != api.OK || !slices.Equal(got, image) {
		t.Errorf("Link: error %d, %v", e, got)
	}
	if got, e := machine.Run(image, nil, 5); e != api.OK || !isSame(got, api.Run{Result: api.Result{Answer: 7}}) {
		t.Errorf("Run: error %d, %+v", e, got)
	}
	image = samples.Bytes("HRI [('main 1 3 1 [] [[(new 0) (cell 1 0 [0]) (end 0) (field 2 1 0) (return 2)]])] [] 0")
	want := api.Run{Result: api.Result{Fault: api.FTouch}, Peak: 1, Events: []api.Event{
		{Kind: api.VNew}, {Kind: api.VAlloc, Words: 1, Held: 1}, {Kind: api.VEnd, Words: 1}}}
	if got, e := machine.Run(image, []int64{5}, 5); e != api.OK || !isSame(got, want) {
		t.Errorf("Run: error %d, %+v", e, got)
	}
}

// TestInts: how an int stands in an object.
func TestInts(t *testing.T) {
	for n, want := range map[int64][]byte{
		0: {0}, -1: {1}, 1: {2}, -2: {3}, 63: {126}, -64: {127}, 64: {128, 1}, -65: {129, 1}, 8191: {254, 127}, -8192: {255, 127}, 8192: {128, 128, 1},
		math.MaxInt64: {254, 255, 255, 255, 255, 255, 255, 255, 255, 1}, math.MinInt64: {255, 255, 255, 255, 255, 255, 255, 255, 255, 1},
	} {
		p := samples.Program("fun main () int [0 int := int #" + strconv.FormatInt(n, 10) + "; value 0];")
		object := slices.Concat([]byte{72, 82, 79, 1, 0, 0, 1, 4, 'm', 'a', 'i', 'n', 0, 1, 0, 0, 1, 2, 0, 0}, want, []byte{29, 0, 0, 1})
		if got, e := machine.Compile(p, 0); e != api.OK || !slices.Equal(got, object) {
			t.Errorf("%d: error %d, %v", n, e, got)
			continue
		}
		if run := ran(t, linked(t, object), nil, 0); run.Result.Answer != n {
			t.Errorf("%d: %+v", n, run)
		}
	}
}

// TestSteps: the code of each operation.
func TestSteps(t *testing.T) {
	const list = "data list 1 = Nil | Cons v0 (d0 v0 @0 {e0});"
	for _, c := range []struct{ fun, head, codes string }{
		{"(int) int [value 0]", "1 1 0 []", "[(return 0)]"},
		{"(int bool unit) unit [9 bool := bool #1; 4 unit := unit; value 4]", "3 10 0 []", "[(load 9 #1) (load 4 #0) (return 4)]"},
		{"(int int) int [2 int := add 0 1; 3 int := sub 1 2; 4 int := mul 2 3; 5 int := div 3 4; 6 int := mod 4 5; 7 bool := eq 5 6; 8 bool := less 6 0; value 6]", "2 9 0 []",
			"[(add 2 0 1) (sub 3 1 2) (mul 4 2 3) (div 5 3 4) (mod 6 4 5) (eq 7 5 6) (less 8 6 0) (return 6)]"},
		{"(int) int [new @3; 1 (* int int @3) := tuple 0 0 @3; 2 int := get #1 1; end @3; value 2]", "1 3 4 []", "[(new 3) (cell 1 3 [0 0]) (field 2 1 1) (end 3) (return 2)]"},
		{"(int) int [new @0; 1 (ref int @0) := ref 0 @0; 2 int := deref 1; 3 unit := set 1 2; end @0; 4 unit := print 2; value 2]", "1 5 1 []",
			"[(new 0) (cell 1 0 [0]) (field 2 1 0) (write 1 2) (load 3 #0) (end 0) (print 2) (load 4 #0) (return 2)]"},
		{"(int) int [new @0; 1 (array int @0) := array 0 0 @0; 2 int := len 1; 3 int := at 1 2; 4 unit := put 1 3 2; end @0; value 2]", "1 5 1 []",
			"[(new 0) (array 1 0 0 0) (len 2 1) (at 3 1 2) (put 1 3 2) (load 4 #0) (end 0) (return 2)]"},
		{"(int) int [1 int := raise .3 0; value 1]", "1 2 0 []", "[(raise 3 0) (return 1)]"},
		{"(int bool) int [5 int := if 1 [2 int := int #2; value 2] [3 int := int #3; 4 int := int #4; value 0]; value 5]", "2 6 0 []",
			"[(branch 1 4) (load 2 #2) (move 5 2) (jump 7) (load 3 #3) (load 4 #4) (move 5 0) (return 5)]"},
		{"(int) int [5 int := handle [value 0] [bind 1; value 1]; value 5]", "1 6 0 []", "[(try [] []) (untry) (move 1 0) (move 5 1) (return 5)]"},
		{"(int) int [new @0; new @1; 5 int := handle {0 1} [1 int := raise .3 0; value 1] [bind 2; end @0; end @1; value 2] [exn 3; bind 3; end @0; end @1; value 0] [bind 4; end @1; end @0; value 4]; value 5]", "1 6 2 []",
			"[(new 0) (new 1) (try [0 1] [(3 3 10) (0 4 14)]) (raise 3 0) (untry) (move 2 1) (end 0) (end 1) (move 5 2) (jump 17) (end 0) (end 1) (move 5 0) (jump 17) (end 1) (end 0) (move 5 4) (return 5)]"},
	} {
		data := list
		if strings.Contains(c.codes, "raise") {
			data += "exn no;"
		}
		bodyIs(t, data, c.fun, c.head, c.codes)
	}
}

// TestTables: code of data types, of lambdas and of calls.
func TestTables(t *testing.T) {
	const list = "data list 1 = Nil | Cons v0 (d0 v0 @0 {e0});"
	bodyIs(t, list, "1 2 1 {1} (v0 (d0 v0 @1 {e0})) (d0 v0 @1 {e0}) [2 (d0 v0 @1 {e0}) := make .0; 3 (d0 v0 @1 {e0}) := make .1 0 1 @1; 7 (d0 v0 @1 {e0}) := case 3 [value 2] [bind 5 6; value 6]; end @1; value 7]", "2 8 2 [1]",
		"[(load 2 #0) (make 3 1 1 [0 1]) (switch 3 [(3 []) (5 [5 6])]) (move 7 2) (jump 6) (move 7 6) (end 1) (return 7)]")
	bodyIs(t, "data one 0 = One int int;", "(int) int [new @0; 1 (d0 @0) := make .0 0 0 @0; 4 int := case 1 [bind 2 3; value 3]; end @0; value 4]", "1 5 1 []",
		"[(new 0) (make 1 0 0 [0 0]) (switch 1 [(3 [2 3])]) (move 4 3) (end 0) (return 4)]")
	// Formals count even where nothing mentions them, and a lambda's variables and regions count as well.
	bodyIs(t, "", "0 3 0 {0} (int) (-> int int @0 {0}) [9 (-> int int @0 {0}) := fn @0 [bind 4; new @5; 3 (* int int @5) := tuple 0 4 @5; 2 int := get #0 3; end @5; value 2]; end @0; value 9]", "1 10 6 [0]",
		"[(close 9 0 1 [0 4] []) (end 0) (return 9)] [(new 5) (cell 3 5 [0 4]) (field 2 3 0) (end 5) (return 2)]")
	// Lambdas are numbered in the order of the text; captured are variables in the order of their first use, and handles rising.
	bodyIs(t, "", "0 3 0 {0 1 2} (int int int) (-> int (-> int int @1 {0 2}) @2 {0 1 2}) "+
		"[3 (-> int int @1 {}) := fn @1 [bind 4; value 1]; "+
		"12 (-> int (-> int int @1 {0 2}) @2 {0 1 2}) := fn @2 [bind 5; 11 (-> int int @1 {0 2}) := fn @1 [bind 6; 7 (* int int @2) := tuple 2 5 @2; 8 (* int int @0) := tuple 6 0 @0; 9 int := add 2 1; value 1]; value 11]; "+
		"13 (-> int int @0 {1}) := fn @0 [bind 14; 15 int := apply 3 0; value 14]; end @2; end @0; end @1; value 12]", "3 16 3 [0 1 2]",
		"[(close 3 1 1 [1 4] []) (close 12 2 2 [2 0 1 5] [0 1 2]) (close 13 0 4 [3 0 14] []) (end 2) (end 0) (end 1) (return 12)] [(return 1)] "+
			"[(close 11 1 3 [2 5 0 1 6] [0 2]) (return 11)] [(cell 7 2 [2 5]) (cell 8 0 [6 0]) (add 9 2 1) (return 1)] [(apply 15 3 0) (return 14)]")
}

// TestUnits: an object has what is of its unit; functions have their numbers in the program.
func TestUnits(t *testing.T) {
	p := samples.Program(`exn no; exn why; fun a (int) int [1 int := raise .4 0; value 1];
fun b 0 2 0 {1} ((* int int @0) (* int int @1)) int [2 int := get #0 1; end @1; 3 int := raise .2 2; value 3];
fun c (int) int [1 int := call .0 0; value 1];
fun main (int) int [new @0; 1 (* int int @0) := tuple 0 0 @0; new @1; 2 (* int int @1) := tuple 0 0 @1; 3 int := call .1 @0 @1 last 1 2; 4 int := call .2 3; end @0; 5 int := raise .3 4; value 5];`)
	for i, unit := range []int{0, 2, 2, 15} {
		p.Funs[i].Unit = unit
	}
	for unit := range 16 {
		want := map[int]string{
			0:  "HRO 0 0 [('a 1 2 0 [] [[(raise 4 0) (return 1)]])] [(4 'why)] 0",
			1:  "HRO 1 1 [] [] 0",
			2:  "HRO 2 1 [('b 2 4 2 [1] [[(field 2 1 0) (end 1) (raise 2 2) (return 3)]]) ('c 1 2 0 [] [[(call 1 0 [0] []) (return 1)]])] [] 0",
			15: "HRO 15 3 [('main 1 6 2 [] [[(new 0) (cell 1 0 [0 0]) (new 1) (cell 2 1 [0 0]) (call 3 1 [1 2] [(1 1)]) (call 4 2 [3] []) (end 0) (raise 3 4) (return 5)]])] [(3 'no)] 1",
		}[unit]
		if want == "" {
			want = samples.Text("HRO ", unit, " 3 [] [] 0")
		}
		compilesTo(t, p, unit, want)
	}
	p.Funs[0], p.Funs[3] = p.Funs[3], p.Funs[0]
	p.Funs[0].Unit, p.Funs[3].Unit, p.Main = 0, 15, 0
	if _, e := machine.Compile(p, 0); e != api.ErrObject {
		t.Errorf("main calls functions of later units: %d", e)
	}
}

// TestMainAhead: main may stand ahead of other functions of its unit, and be called.
func TestMainAhead(t *testing.T) {
	p := samples.Program("fun a () int [0 int := int #1; value 0]; fun main (int) int [1 int := call .2 0; value 1]; fun c (int) int [1 int := call .1 0; value 1];")
	p.Main = 1
	compilesTo(t, p, 0, "HRO 0 0 [('a 0 1 0 [] [[(load 0 #1) (return 0)]]) ('main 1 2 0 [] [[(call 1 2 [0] []) (return 1)]]) ('c 1 2 0 [] [[(call 1 1 [0] []) (return 1)]])] [] 2")
}

// TestRefused: what has no object.
func TestRefused(t *testing.T) {
	const text = "fun a (int) int [1 int := raise .0 0; value 1]; fun b (int) int [1 int := call .0 0; value 1]; fun main () int [0 int := int #7; 1 int := call .1 0; value 1];"
	units := func(list ...int) api.Program {
		p := samples.Program(text)
		for i, unit := range list {
			p.Funs[i].Unit = unit
		}
		return p
	}
	for _, c := range []struct {
		units []int
		unit  int
		want  api.Errno
	}{
		{[]int{0, 0, 0}, 0, api.OK},
		{[]int{0, 0, 0}, 1, api.ErrObject},
		{[]int{0, 0, 0}, -1, api.ErrObject},
		{[]int{0, 0, 0}, math.MinInt, api.ErrObject},
		{[]int{0, 7, 15}, 0, api.OK},
		{[]int{0, 7, 15}, 3, api.OK},
		{[]int{0, 7, 15}, 15, api.OK},
		{[]int{0, 7, 15}, 16, api.ErrObject},
		{[]int{0, 7, 15}, math.MaxInt, api.ErrObject},
		{[]int{0, 7, 14}, 15, api.ErrObject},
		{[]int{3, 7, 14}, 0, api.OK},
		{[]int{-1, 0, 0}, 0, api.ErrObject},
		{[]int{-1, -1, -1}, -1, api.ErrObject},
		{[]int{0, 0, 16}, 0, api.ErrObject},
		{[]int{0, 0, 16}, 16, api.ErrObject},
		{[]int{0, 1, 0}, 0, api.ErrObject},
		{[]int{1, 0, 1}, 1, api.ErrObject},
		{[]int{0, math.MaxInt, math.MaxInt}, 0, api.ErrObject},
		{[]int{math.MinInt, 0, 0}, 0, api.ErrObject},
	} {
		refusesObject(t, units(c.units...), c.unit, c.want)
	}
	p := units(0, 0, 0)
	p.Funs[2].Body.Value = 5
	refusesObject(t, p, 0, api.ErrObject)
	p = units(0, 0, 0)
	p.Main = 3
	refusesObject(t, p, 0, api.ErrObject)
	refusesObject(t, api.Program{}, 0, api.ErrObject)
	// A call of a later unit, in a lambda of a unit that is not asked for.
	p = samples.Program("fun a 0 1 0 {0} (int) int [9 (-> int int @0 {}) := fn @0 [bind 1; 2 int := call .1 1; value 2]; end @0; value 0]; fun main (int) int [value 0];")
	refusesObject(t, p, 0, api.OK)
	p.Funs[1].Unit = 1
	refusesObject(t, p, 0, api.ErrObject)
	refusesObject(t, p, 1, api.ErrObject)
}

func refusesObject(t *testing.T, p api.Program, unit int, want api.Errno) {
	t.Helper()
	object, e := machine.Compile(p, unit)
	if e != want || (e == api.OK) != (len(object) > 0) {
		t.Errorf("Compile of unit %d: error %d, %d bytes, not error %d", unit, e, len(object), want)
	}
}

// TestNames: how long names may be, and how great the number of an exception.
func TestNames(t *testing.T) {
	const text = "exn no; exn why; fun a (int) int [5 int := handle [1 int := raise .3 0; value 1] [bind 2; value 2] [exn 0; bind 3; value 3]; value 5]; fun main () int [0 int := int #7; value 0];"
	for _, c := range []struct {
		what   func(*api.Program)
		errors [2]api.Errno
	}{
		{func(p *api.Program) { p.Funs[0].Name = strings.Repeat("a", api.MaxText) }, [2]api.Errno{}},
		{func(p *api.Program) { p.Funs[0].Name, p.Funs[1].Name = "", "" }, [2]api.Errno{}},
		{func(p *api.Program) { p.Funs[0].Name = strings.Repeat("a", api.MaxText+1) }, [2]api.Errno{api.ErrObject, api.ErrObject}},
		{func(p *api.Program) { p.Funs[1].Name = strings.Repeat("a", api.MaxText+1) }, [2]api.Errno{api.ErrObject, api.ErrObject}},
		{func(p *api.Program) { p.Exns[3] = strings.Repeat("a", api.MaxText) }, [2]api.Errno{}},
		{func(p *api.Program) { p.Exns[3] = strings.Repeat("a", api.MaxText+1) }, [2]api.Errno{api.ErrObject, api.OK}},
		{func(p *api.Program) { p.Exns[4] = strings.Repeat("a", api.MaxText+1) }, [2]api.Errno{}},
		{func(p *api.Program) { manyExns(p, api.MaxNodes-1) }, [2]api.Errno{}},
		{func(p *api.Program) { manyExns(p, api.MaxNodes) }, [2]api.Errno{api.ErrObject, api.OK}},
	} {
		p := samples.Program(text)
		p.Funs[1].Unit = 1
		c.what(&p)
		for unit, want := range c.errors {
			refusesObject(t, p, unit, want)
		}
	}
}

// manyExns lets the first function raise the exception of a number.
func manyExns(p *api.Program, number int) {
	for len(p.Exns) <= number {
		p.Exns = append(p.Exns, "e")
	}
	p.Funs[0].Body.Steps[0].Blocks[0].Steps[0].Code = number
}

// TestCompileByChance: the objects of all units are those of the judge.
func TestCompileByChance(t *testing.T) {
	t.Parallel()
	for seed := range 3 * rounds {
		for _, p := range []api.Program{samples.Regions(seed), samples.Mutual(seed), unitsByChance(seed)} {
			for unit := range 1 + p.Funs[len(p.Funs)-1].Unit {
				if got, want := compiled(t, p, unit), samples.Bytes(judgeCompile(p, unit)); !slices.Equal(got, want) {
					t.Fatalf("%d: %v, not %v: %s", seed, got, want, samples.Write(p))
				}
			}
		}
	}
	for seed := range rounds {
		p, ok := byTexts(t, seed)
		if !ok {
			continue
		}
		for unit := range 3 {
			if got, want := compiled(t, p, unit), samples.Bytes(judgeCompile(p, unit)); !slices.Equal(got, want) {
				t.Fatalf("%d: %v, not %v: %s", seed, got, want, samples.Write(p))
			}
		}
	}
}

// unitsByChance is a region program whose functions are in several units; functions call those ahead and themselves.
func unitsByChance(seed int) api.Program {
	p := samples.Regions(seed)
	unit := seed % 3
	for i := range p.Funs {
		p.Funs[i].Unit = unit
		unit += (seed >> i) % 3
	}
	return p
}

// byTexts is the region program of units by chance, if they have types.
func byTexts(t *testing.T, seed int) (api.Program, bool) {
	t.Helper()
	p, ok := flatOf(t, samples.Texts(seed)...)
	if !ok {
		return p, false
	}
	q, e := place.Place(p)
	return q, e == api.OK
}
