package bounds_test

import (
	"fmt"
	"slices"
	"testing"

	"heriot/api"
	"heriot/bounds"
	"heriot/samples"
	"heriot/steps"
)

// stepAt is the step at a path.
func stepAt(f api.Fun, path []int) api.Step {
	b := f.Body
	for i := 0; i+1 < len(path); i += 2 {
		b = b.Steps[path[i]].Blocks[path[i+1]]
	}
	return b.Steps[path[len(path)-1]]
}

// TestFiniteByChance: P9.1 and P9.5: what Finite says is what the judge says, and no instance of a run gets more.
func TestFiniteByChance(t *testing.T) {
	t.Parallel()
	known, unknown, begun, full := 0, 0, 0, 0
	for seed := range 350 {
		m, ok := sample(t, seed)
		if !ok {
			continue
		}
		counts, e := bounds.Finite(m.Program)
		if want := counted(m.Program); e != api.OK || !slices.Equal(counts, want) {
			t.Fatalf("%s: Finite: %v %d, not %v: %s", m.name, counts, e, want, samples.Write(m.Program))
		}
		most := map[[2]int]int{}
		for _, c := range counts {
			if c.Known {
				known++
				most[[2]int{c.Fun, c.Region}] = c.Words
			} else {
				unknown++
			}
		}
		args := []int64{int64(seed % 7), int64(seed%5) - 1}
		run := steps.Run(m.Program, args, 200)
		words := map[int]int{}
		for _, e := range run.Events {
			words[e.Region] += 0
			if e.Kind == api.VAlloc {
				words[e.Region] += e.Words
			}
		}
		for k, e := range run.Events {
			if e.Kind != api.VNew || begun > 8*seed {
				continue
			}
			frames, _ := steps.Frames(m.Program, args, 200, k+1)
			last := frames[len(frames)-1]
			s := stepAt(m.Funs[last.Fun], last.Path)
			limit, ok := most[[2]int{last.Fun, s.Region}]
			if s.Op != api.ONew || ok && words[e.Region] > limit {
				t.Fatalf("%s: region %d of function %d has %d words, not %d: %s", m.name, s.Region, last.Fun, words[e.Region], limit, samples.Write(m.Program))
			}
			begun++
			if ok && limit > 0 && words[e.Region] == limit {
				full++
			}
		}
	}
	if known < 3000 || unknown < 600 || begun < 1200 || full < 300 {
		t.Errorf("too few cases: %d are known, %d are not, of %d instances %d get as many words", known, unknown, begun, full)
	}
}

// finiteIs looks at the words of main's regions, by their numbers; -1 where they are not known.
func finiteIs(t *testing.T, functions, steps string, want ...int) {
	t.Helper()
	p := program(t, functions+" fun main (int) int ["+steps+"];")
	counts, e := bounds.Finite(p)
	var got []int
	for _, c := range counts {
		if c.Fun != p.Main {
			continue
		}
		if !c.Known && c.Words == 0 {
			c.Words = -1
		}
		got = append(got, c.Words)
	}
	if e != api.OK || !slices.Equal(got, want) {
		t.Errorf("Finite: %v %d, not %v: %s", got, e, want, steps)
	}
	if !slices.Equal(counts, counted(p)) {
		t.Errorf("Finite: %v, the judge says %v: %s", counts, counted(p), steps)
	}
}

// TestFinite: the words of a name in a block.
func TestFinite(t *testing.T) {
	finiteIs(t, "", "value 0")
	finiteIs(t, "", "new @0; end @0; value 0", 0)
	finiteIs(t, "", "new @0; 1 (ref int) := ref 0 @0; 2 (* int int) := tuple 0 0 @0; 3 (d0 int) := make .0; 4 (d0 int) := make .1 0 3 @0; end @0; value 0", 6)
	finiteIs(t, "", "new @0; 1 (d3 int) := make .0 0 @0; end @0; value 0", 2)
	finiteIs(t, "", "new @1; new @0; 1 (ref int) := ref 0 @0; end @0; 2 (* int int @1) := tuple 0 0 @1; end @1; value 0", 1, 2)
	array := func(count string) string {
		return "new @0; " + count + " 2 (array int) := array 1 0 @0; end @0; value 0"
	}
	finiteIs(t, "", array("1 int := int #7;"), 8)
	finiteIs(t, "", array("1 int := int #0;"), 1)
	finiteIs(t, "", array("1 int := int #4096;"), 4097)
	finiteIs(t, "", array("1 int := int #4097;"), 0)
	finiteIs(t, "", array("1 int := int #-1;"), 0)
	finiteIs(t, "", array("1 int := int #"+mostInt+";"), 0)
	finiteIs(t, "", array("1 int := add 0 0;"), -1)
	finiteIs(t, "", "new @0; 2 (array int) := array 0 0 @0; end @0; value 0", -1)
	// Of several blocks the greatest counts; of a handle's what is tried, and the greatest of the others.
	finiteIs(t, "", "new @0; 1 bool := bool #1; 2 int := if 1 [3 (ref int) := ref 0 @0; value 0] [4 (* int int) := tuple 0 0 @0; value 0]; 5 (ref int) := ref 0 @0; end @0; value 0", 3)
	finiteIs(t, "", "new @0; 9 int := handle {0} [1 (ref int) := ref 0 @0; value 0] [bind 2; 3 (* int int) := tuple 0 0 @0; value 2] [exn 0; bind 4; 5 (* int int int) := tuple 0 0 0 @0; value 4] [exn 1; bind 6; value 6]; end @0; value 0", 4)
	finiteIs(t, "", "new @0; 2 int := handle {0} [new @1; 3 (ref int @1) := ref 0 @1; end @1; value 0] [bind 4; new @2; end @2; value 4]; end @0; value 0", 0, 1, 0)
	// A lambda is made once, but its block may be run often.
	finiteIs(t, "", "new @0; 1 (-> int int {0}) := fn @0 [bind 2; value 2]; end @0; value 0", 1)
	finiteIs(t, "", "new @0; new @1; 1 (-> int int @1 {0}) := fn @1 [bind 2; 3 (ref int) := ref 0 @0; value 2]; end @0; end @1; value 0", -1, 3)
	finiteIs(t, "", "new @0; new @1; 1 (-> int int @1 {0}) := fn @1 [bind 2; 5 int := int #-1; 3 (array int) := array 5 0 @0; value 2]; end @0; end @1; value 0", 0, 3)
	finiteIs(t, "", "new @0; new @1; 1 (-> int (-> int int @1 {0}) @1 {0 1}) := fn @1 [bind 2; new @2; 6 (ref int @2) := ref 2 @2; end @2; 3 (-> int int @1 {0}) := fn @1 [bind 4; 5 (ref int) := ref 4 @0; value 4]; value 3]; end @0; end @1; value 0", -1, -1, 1)
}

// TestFiniteCalls: the words of what is handed to functions.
func TestFiniteCalls(t *testing.T) {
	const two = "fun two 0 2 0 {0 1} (int) int [1 (* int int) := tuple 0 0 @0; 2 bool := bool #1; 3 int := if 2 [4 (ref int @1) := ref 0 @1; value 0] [value 0]; end @0; end @1; value 0]; "
	finiteIs(t, two, "new @0; new @1; 1 int := call .0 @0 @1 keep keep 0; 2 int := call .0 @0 @1 last last 0; value 0", 4, 2)
	finiteIs(t, two, "new @0; 1 int := call .0 @0 @0 keep keep 0; end @0; value 0", 3)
	finiteIs(t, two, "new @0; new @1; 2 (-> int int {0 1}) := fn @0 [bind 3; 1 int := call .0 @0 @1 keep keep 0; value 1]; end @0; end @1; value 0", -1, -1)
	const idle = "fun idle 0 1 0 {0} (int) int [end @0; value 0]; fun on 0 1 0 {0} (int) int [1 int := call .0 @0 keep 0; end @0; value 0]; "
	finiteIs(t, idle, "new @0; 1 int := call .1 @0 last 0; value 0", 0)
	finiteIs(t, idle, "new @0; new @1; 2 (-> int int @1 {0}) := fn @1 [bind 3; 1 int := call .0 @0 keep 0; value 1]; end @0; end @1; value 0", -1, 3)
	// A formal that the callee may not touch counts not, nor does what closures of others make.
	finiteIs(t, "fun f 0 2 1 {0 e0} (int) int [end @0; value 0]; ", "new @0; 1 int := call .0 @0 @0 {0} keep 0; end @0; value 0", 0)
	// Functions that call themselves, perhaps over others.
	const again = "fun f 0 2 0 {0 1} (int) int [1 (ref int) := ref 0 @0; 2 int := call .0 @0 @1 keep keep 0; end @0; end @1; value 0]; "
	finiteIs(t, again, "new @0; new @1; 1 int := call .0 @0 @1 last last 0; value 0", -1, 0)
	const swaps = "fun f 0 2 0 {0 1} (int) int [1 (ref int) := ref 0 @0; 2 int := call .0 @1 @0 keep keep 0; end @0; end @1; value 0]; "
	finiteIs(t, swaps, "new @0; new @1; 1 int := call .0 @0 @1 last last 0; value 0", -1, -1)
	const over = "fun f 0 3 0 {0 1 2} (int) int [2 int := call .1 @1 @0 @2 keep keep keep 0; end @0; end @1; end @2; value 0]; fun g 0 3 0 {0 1 2} (int) int [2 int := call .0 @0 @1 @2 keep keep keep 0; 3 int := call .2 @0 @2 keep keep 0; end @0; end @1; end @2; value 0]; fun h 0 2 0 {0 1} (int) int [1 (ref int) := ref 0 @0; end @0; end @1; value 0]; "
	finiteIs(t, over, "new @0; new @1; new @2; 1 int := call .0 @0 @1 @2 last last last 0; value 0", -1, -1, 0)
	// In a lambda, too: but what it hands to a function that makes nothing is nothing, as long as the function around calls itself.
	const called = "fun i 0 1 0 {0} (int) int [end @0; value 0]; fun f 0 3 0 {0 1 2} (int) int [1 (-> int int @1 {0 1 2}) := fn @1 [bind 2; 3 int := call .0 @0 keep 2; 4 int := call .1 @2 @1 @2 keep keep keep 2; value 3]; end @0; end @1; end @2; value 0]; "
	finiteIs(t, called, "new @0; new @1; new @2; 1 int := call .1 @0 @1 @2 last last last 0; value 0", 0, -1, 0)
	// The regions of functions that call themselves.
	p := program(t, "fun f 0 0 0 {} (int) int [new @0; 1 (ref int) := ref 0 @0; end @0; 2 int := call .0 0; value 2];"+someMain)
	if counts, e := bounds.Finite(p); e != api.OK || !slices.Equal(counts, []api.Count{{Fun: 0, Region: 0, Words: 1, Known: true}}) {
		t.Errorf("Finite: %v %d", counts, e)
	}
	// Twice as many from function to function.
	text := "fun f0 0 1 0 {0} (int) int [1 (ref int) := ref 0 @0; end @0; value 0]; "
	steps := ""
	for i := 1; i <= 52; i++ {
		text += fmt.Sprintf("fun f%d 0 1 0 {0} (int) int [1 int := call .%d @0 keep 0; 2 int := call .%d @0 keep 0; end @0; value 0]; ", i, i-1, i-1)
	}
	for _, i := range []int{49, 50, 51, 52} {
		steps += fmt.Sprintf("new @%d; %d int := call .%d @%d last 0; ", i, i, i, i)
	}
	steps += "new @60; 60 int := call .50 @60 keep 0; 61 (ref int @60) := ref 0 @60; end @60; value 0"
	p = program(t, text+"fun main (int) int ["+steps+"];")
	want := []api.Count{{Fun: 53, Region: 49, Words: 1 << 49, Known: true}, {Fun: 53, Region: 50, Words: 1 << 50, Known: true}, {Fun: 53, Region: 51}, {Fun: 53, Region: 52}, {Fun: 53, Region: 60}}
	if counts, e := bounds.Finite(p); e != api.OK || !slices.Equal(counts, want) {
		t.Errorf("Finite: %v %d", counts, e)
	}
}
