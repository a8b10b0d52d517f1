package place_test

import (
	"fmt"
	"strings"
	"testing"

	"heriot/api"
	"heriot/flat"
	"heriot/place"
	"heriot/samples"
	"heriot/steps"
)

// listed writes something for each number, in a row.
func listed(n int, text func(i int) string) string {
	var out []string
	for i := range n {
		out = append(out, text(i))
	}
	return strings.Join(out, " ")
}

// placeIs looks at what Place says of a program that is flat.
func placeIs(t *testing.T, what string, p api.Program, want api.Errno) api.Program {
	t.Helper()
	if e := flat.Valid(p); e != api.OK {
		t.Fatalf("%s: Valid: %d: %s", what, e, write(p))
	}
	q, e := place.Place(p)
	if e != want {
		t.Fatalf("%s: %d, not %d: %s", what, e, want, write(q))
	}
	if e != api.OK && (len(q.Funs) > 0 || len(q.Exns) > 0 || len(q.Datas) > 0 || q.Main != 0) {
		t.Errorf("%s: %s with an error", what, write(q))
	}
	if e != api.OK {
		return q
	}
	if e, at := steps.Check(q); e != api.OK {
		t.Errorf("%s: Check: %d %v: %s", what, e, at, write(q))
	}
	return q
}

// manyIs looks at what Place says of a program with some number of something, and with one more.
func manyIs(t *testing.T, what string, most int, program func(n int) string) {
	t.Helper()
	placeIs(t, fmt.Sprint(most, " ", what), samples.Program(program(most)), api.OK)
	placeIs(t, fmt.Sprint(most+1, " ", what), samples.Program(program(most+1)), api.ErrBig)
}

// TestManyRegions: a function has at most 1,024 regions, formals and locals.
func TestManyRegions(t *testing.T) {
	t.Parallel()
	pairs := func(from, n int) string {
		return listed(n, func(i int) string { return fmt.Sprintf("%d (* int int) := tuple 0 0;", from+i) })
	}
	refs := func(from, n int) string {
		return listed(n, func(i int) string { return fmt.Sprintf("%d (ref int) := ref 0;", from+i) })
	}
	manyIs(t, "locals", 1024, func(n int) string { return "fun main (int) int [" + pairs(1, n) + "value 0]" })
	manyIs(t, "formals", 1024, func(n int) string {
		return "fun f (int " + listed(n, func(int) string { return "(ref int)" }) + ") int [value 0];" + someMain
	})
	manyIs(t, "formals, with some locals", 1000, func(n int) string {
		return "fun f (int " + listed(n, func(int) string { return "(ref int)" }) + ") int [" + pairs(2000, 24) + "value 0];" + someMain
	})
	manyIs(t, "locals of lambdas", 1020, func(n int) string {
		return "fun main (int) int [2000 (-> int int) := fn [bind 3000; 2001 (-> int int) := fn [bind 3001;" + pairs(1, n) + "value 0]; 2002 (* int int) := tuple 0 0; value 0]; 2003 (ref int) := ref 0; value 0]"
	})
	hides := func(n int) string {
		return "fun f (int) (-> int int) [" + refs(1, n) + "2000 (-> int int) := fn [bind 2001; " +
			listed(n, func(i int) string { return fmt.Sprintf("%d int := deref %d;", 3000+i, 1+i) }) + " value 2001]; value 2000];"
	}
	// a call of a function with hidden formals gives the caller as many
	manyIs(t, "hidden formals, and their actuals", 100, func(n int) string {
		return hides(n) + "fun main (int) int [1 (-> int int) := call .0 0; " + pairs(2, 923) + " value 0]"
	})
	manyIs(t, "hidden formals, twice", 50, func(n int) string {
		return hides(n) + "fun main (int) int [1 (-> int int) := call .0 0; 3000 (-> int int) := call .0 0; " + pairs(2, 922) + " value 0]"
	})
	// in a group all calls have the same names for them
	manyIs(t, "hidden formals of the group", 100, func(n int) string {
		return strings.Replace(hides(n), "value 2000];", "2999 int := call .1 0; value 2000];", 1) +
			"fun g (int) int [1 (-> int int) := call .0 0; 3000 (-> int int) := call .0 0;" + pairs(2, 922) + " value 0];" + someMain
	})
}

// TestManyNumbers: a function has at most MaxNodes numbers in its lists.
func TestManyNumbers(t *testing.T) {
	t.Parallel()
	// a lambda that reads some refs: their regions stand in its type's effect, wherever that stands
	reading := func(refs, copies, more int) string {
		return "fun main (int) int [" + listed(refs, func(i int) string { return fmt.Sprintf("%d (ref int) := ref 0;", 1+i) }) + "500 (-> int int) := fn [bind 501;" +
			listed(refs, func(i int) string { return fmt.Sprintf("%d int := deref %d;", 1000+i, 1+i) }) + "value 501]; 2000 (* " +
			listed(copies, func(int) string { return "(-> int int)" }) + ") := tuple " + listed(copies, func(int) string { return "500" }) + ";" +
			listed(more, func(i int) string {
				return fmt.Sprintf("%d (-> int int) := fn [bind %d; %d int := deref 1; value %d];", 3000+4*i, 3001+4*i, 3002+4*i, 3001+4*i)
			}) + "value 0]"
	}
	placeIs(t, "as many numbers as there may be", samples.Program(reading(128, 127, 0)), api.OK)
	placeIs(t, "one more", samples.Program(reading(128, 127, 1)), api.ErrBig)
	placeIs(t, "as many in other lists", samples.Program(reading(120, 135, 64)), api.OK)
	placeIs(t, "one more", samples.Program(reading(120, 135, 65)), api.ErrBig)
	// the regions and the modes of calls: 2 numbers for each region that is handed over
	takes := func(regions, calls int) string {
		return "fun f (" + listed(regions, func(int) string { return "(ref int)" }) + ") int [" +
			listed(regions, func(i int) string { return fmt.Sprintf("%d int := deref %d;", 1000+i, i) }) + " value 1000]; fun main (int) int [1 (ref int) := ref 0; " +
			listed(calls, func(i int) string {
				return fmt.Sprintf("%d int := call .0 %s;", 2+i, listed(regions, func(int) string { return "1" }))
			}) + " value 0]"
	}
	manyIs(t, "calls with 128 regions", 64, func(n int) string { return takes(128, n) })
	// what handles keep
	keeps := func(refs, handles, more int) string {
		text := "fun main (int) int [" + listed(refs, func(i int) string { return fmt.Sprintf("%d (ref int) := ref 0;", 1+i) }) +
			listed(handles, func(i int) string {
				return fmt.Sprintf("%d int := handle [value 0] [bind %d; value 0];", 1000+2*i, 1001+2*i)
			})
		text += listed(more, func(i int) string { return fmt.Sprintf("%d (ref int) := ref 0;", 8000+i) }) + "9000 int := handle [value 0] [bind 9001; value 0];"
		return text + listed(refs, func(i int) string { return fmt.Sprintf("%d int := deref %d;", 5000+i, 1+i) }) +
			listed(more, func(i int) string { return fmt.Sprintf("%d int := deref %d;", 9100+i, 8000+i) }) + "value 0]"
	}
	placeIs(t, "as much kept as may be", samples.Program(keeps(128, 127, 0)), api.OK)
	placeIs(t, "one more", samples.Program(keeps(128, 127, 1)), api.ErrBig)
}

// TestManyNodes: a program has at most MaxNodes nodes with its regions, and for PlaceUnit a unit alone.
func TestManyNodes(t *testing.T) {
	t.Parallel()
	// each function has 8 nodes, and 4 more for the begin and the end of its region
	functions := func(n int) string {
		return listed(n, func(int) string { return "fun f (int) int [1 (* int int) := tuple 0 0; value 0];" }) + someMain
	}
	manyIs(t, "functions", (api.MaxNodes-4)/12, functions)
	for most, want := range map[int]api.Errno{1365: api.OK, 1366: api.ErrBig} {
		p := samples.Program(functions(most))
		p.Funs[p.Main].Unit = 1
		if funs, e := place.PlaceUnit(p, 0, nil); e != want || (e == api.OK) != (len(funs) == most) {
			t.Errorf("PlaceUnit of %d functions: %d", most, e)
		}
	}
	p := samples.Program(functions(1600))
	for i := range p.Funs {
		p.Funs[i].Unit = i / 800
	}
	placeIs(t, "two units", p, api.ErrBig)
	ahead, e := place.PlaceUnit(p, 0, nil)
	if funs, other := place.PlaceUnit(p, 1, ahead); e != api.OK || other != api.OK || len(ahead) != 800 || len(funs) != 800 {
		t.Errorf("PlaceUnit of two units: %d %d", e, other)
	}
	// a unit's functions have the limits of a function, too
	p = samples.Program("fun main (int) int [" + listed(1025, func(i int) string { return fmt.Sprintf("%d (ref int) := ref 0;", 1+i) }) + "value 0]")
	if funs, e := place.PlaceUnit(p, 0, nil); e != api.ErrBig || len(funs) > 0 {
		t.Errorf("PlaceUnit of too many regions: %d", e)
	}
	// many ends: each region ends in each block
	placeIs(t, "many ends", samples.Program(manyEnds(500, 500)), api.ErrBig)
	placeIs(t, "fewer", samples.Program(manyEnds(20, 200)), api.OK)
	// what is too big without regions is so ahead of anything else
	p = samples.Program(functions(2100))
	if q, e := place.Place(p); e != api.ErrBig || len(q.Funs) > 0 {
		t.Errorf("Place of 2100 functions: %d", e)
	}
	if funs, e := place.PlaceUnit(p, 5, nil); e != api.ErrBig || len(funs) > 0 {
		t.Errorf("PlaceUnit of 2100 functions: %d", e)
	}
}

// manyEnds is a program with regions that are touched in the first one of many blocks.
func manyEnds(regions, blocks int) string {
	return "data color 0 = " + listed(blocks-1, func(int) string { return "R |" }) + " R; fun main (int) int [" +
		listed(regions, func(i int) string { return fmt.Sprintf("%d (* int int) := tuple 0 0;", 1+i) }) + "2000 (d0) := make .0; 2001 int := case 2000 [" +
		listed(regions, func(i int) string { return fmt.Sprintf("%d int := get #0 %d;", 3000+i, 1+i) }) + "value 0]" + strings.Repeat("[value 0]", blocks-1) + "; value 0]"
}

// TestDoubling: formals double along a chain of functions each of which calls the one ahead twice.
func TestDoubling(t *testing.T) {
	t.Parallel()
	chain := func(n int) api.Program {
		text := "fun f () (-> int int) [0 (-> int int) := fn [bind 1; value 1]; value 0];"
		for i := range n {
			text += fmt.Sprintf("fun g%d () (-> int int) [0 (-> int int) := call .%d; 1 (-> int int) := call .%d; 2 (-> int int) := fn [bind 3; 4 int := apply 0 3; 5 int := apply 1 4; value 5]; value 2];", i, i, i)
		}
		return samples.Program(text + "fun main (int) int [value 0]")
	}
	q := placeIs(t, "a short chain", chain(3), api.OK)
	for i, want := range []int{1, 3, 7, 15} {
		if got := q.Funs[i].Regions; got != want {
			t.Errorf("function %d has %d formals, not %d", i, got, want)
		}
	}
	placeIs(t, "a chain", chain(7), api.OK)
	placeIs(t, "a longer chain", chain(10), api.ErrBig)
	placeIs(t, "a very long chain", chain(500), api.ErrBig)
}

// TestLarge: large programs take no longer than they have to.
func TestLarge(t *testing.T) {
	t.Parallel()
	nested := "fun main (int) int ["
	for i := range 62 {
		nested += fmt.Sprintf("%d (* int int) := tuple 0 0; %d (-> int int) := fn [bind %d;", 1+3*i, 2+3*i, 3+3*i)
	}
	nested += listed(62, func(i int) string { return fmt.Sprintf("%d int := get #0 %d;", 500+i, 1+3*i) }) + "value 0]"
	for i := 61; i > 0; i-- {
		nested += fmt.Sprintf("; %d int := apply %d 0; value 0]", 600+i, 2+3*i)
	}
	placeIs(t, "lambdas in lambdas", samples.Program(nested+"; value 0]"), api.OK)

	// each round of the first pass makes two regions of one function the same
	const params = 800
	turn := "fun f (" + listed(params, func(int) string { return "(* int int)" }) + ") (* int int) [900 bool := bool #1; 901 (* int int) := if 900 [value 0] [902 (* int int) := call .0 " +
		listed(params, func(i int) string { return fmt.Sprint((i + 1) % params) }) + "; value 902];" +
		listed(2000, func(i int) string {
			return fmt.Sprintf("%d (* int int) := call .0 %s;", 1000+i, listed(params, func(int) string { return "1" }))
		}) + "value 901];"
	if q := placeIs(t, "a function with many parameters", samples.Program(turn+someMain), api.OK); q.Funs[0].Regions != 1 {
		t.Errorf("it has %d regions", q.Funs[0].Regions)
	}

	// each effect has the next one's variable, around and around
	const arrows = 120
	text := "fun f (" + listed(arrows, func(int) string { return "(-> int int)" }) + ") int [500 bool := bool #1;" + listed(arrows, func(i int) string {
		own := 1000 + 4*i
		return fmt.Sprintf("%d (-> int int) := if 500 [value %d] [%d (-> int int) := fn [bind %d; %d int := apply %d %d; value %d]; value %d];",
			own, i, own+1, own+2, own+3, (i+1)%arrows, own+2, own+3, own+1)
	}) + listed(60, func(i int) string {
		return fmt.Sprintf("%d int := call .0 %s;", 3000+i, listed(arrows, func(k int) string { return fmt.Sprint((k + 1) % arrows) }))
	}) + "4000 int := int #1; value 4000];"
	placeIs(t, "many effects that are the same", samples.Program(text+someMain), api.ErrBig)

	// functions that call each other in a ring, each of which hides a region
	const ring = 40
	text = listed(ring, func(i int) string {
		return fmt.Sprintf("fun f ((-> int int)) (-> int int) [1 int := int #1; 2 (ref int) := ref 1; 3 (-> int int) := fn [bind 4; 5 int := deref 2; 6 int := apply 0 5; value 6]; 8 bool := less 1 1; 9 (-> int int) := if 8 [value 3] [7 (-> int int) := call .%d 3; value 7]; value 9];", (i+1)%ring)
	})
	if q := placeIs(t, "a ring", samples.Program(text+someMain), api.OK); q.Funs[0].Regions != ring+2 {
		t.Errorf("in a ring: %d regions", q.Funs[0].Regions)
	}

	// a case binds many large types that nobody reads
	part := "(* v0 v0)"
	for range 4 {
		part = "(* " + part + part + ")"
	}
	text = "data d 1 = A " + listed(60, func(int) string { return part }) + "; fun f ((d0 (ref int))) int [" + listed(200, func(i int) string {
		own := 10 + 70*i
		return fmt.Sprintf("%d int := case 0 [bind %s; %d int := int #0; value %d];", own+1, listed(60, func(k int) string { return fmt.Sprint(own + 3 + k) }), own, own)
	}) + "11 int := int #0; value 11];"
	placeIs(t, "large cases", samples.Program(strings.Replace(text, "11 int := int #0; value 11];", "value 11];", 1)+someMain), api.OK)
}
