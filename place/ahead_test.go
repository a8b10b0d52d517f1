package place_test

import (
	"fmt"
	"maps"
	"math/rand"
	"slices"
	"strings"
	"testing"

	"heriot/api"
	"heriot/place"
	"heriot/samples"
)

// someHead is a signature by chance that fits a function of a flat program: with other regions, effects and touches than the function's body has.
func someHead(some *rand.Rand, f api.Fun) api.Fun {
	out := api.Fun{Name: f.Name, Unit: f.Unit, Types: f.Types, Regions: 1 + some.Intn(6), Body: api.Block{Value: -1}}
	var number, write func(t api.Type) api.Type
	number = func(t api.Type) api.Type {
		if lies(t) {
			t.Region = some.Intn(out.Regions)
		}
		if acts(t) {
			own := some.Intn(out.Effects + 1)
			out.Effects = max(out.Effects, own+1)
			t.Effect.Vars = []int{own}
		}
		t.Args = each(t.Args, number)
		return t
	}
	out.Params = each(f.Params, number)
	out.Result = number(f.Result)
	effects := someEffects(some, out.Regions, out.Effects)
	write = func(t api.Type) api.Type {
		if acts(t) {
			own := effects[t.Effect.Vars[0]]
			t.Effect = api.Effect{Regions: slices.Clone(own.Regions), Vars: slices.Clone(own.Vars)}
		}
		t.Args = each(t.Args, write)
		return t
	}
	out.Params = each(out.Params, write)
	out.Result = write(out.Result)
	out.Touch = api.Effect{Regions: someBelow(some, out.Regions), Vars: someBelow(some, out.Effects)}
	return out
}

// someEffects are effects each of which has its own variable, and all that the effects have whose variables it has; no two have each other's.
func someEffects(some *rand.Rand, regions, count int) []api.Effect {
	out := make([]api.Effect, count)
	var ahead []int
	for _, own := range some.Perm(count) {
		all := contents{map[int]bool{}, map[int]bool{own: true}}
		for _, r := range someBelow(some, regions) {
			all.regions[r] = true
		}
		for _, other := range ahead {
			if some.Intn(4) > 0 {
				continue
			}
			for _, r := range out[other].Regions {
				all.regions[r] = true
			}
			for _, v := range out[other].Vars {
				all.vars[v] = true
			}
		}
		out[own] = api.Effect{Regions: slices.Sorted(maps.Keys(all.regions)), Vars: slices.Sorted(maps.Keys(all.vars))}
		ahead = append(ahead, own)
	}
	return out
}

// someBelow are some of the numbers below one, rising.
func someBelow(some *rand.Rand, most int) []int {
	var out []int
	for n := range most {
		if some.Intn(2) == 0 {
			out = append(out, n)
		}
	}
	return out
}

// withoutBodies is a program whose functions up to a number do nothing but raise an exception.
func withoutBodies(p api.Program, to int) api.Program {
	p.Funs = slices.Clone(p.Funs)
	for i := range p.Funs[:to] {
		f := &p.Funs[i]
		payload, value := len(f.Params), len(f.Params)+1
		f.Body = api.Block{Value: value, Steps: []api.Step{{Op: api.OInt, Out: payload}, {Op: api.ORaise, Out: value, Type: f.Result, Args: []int{payload}}}}
	}
	return p
}

// checkAhead looks at whether the units of a program are placed by signatures ahead that are made by chance. It gives how many calls go by them, and how many functions become others than by what Place finds.
func checkAhead(t *testing.T, some *rand.Rand, m made) (calls, others int) {
	t.Helper()
	whole := placed(t, m.Program)
	heads := each(m.Funs, func(f api.Fun) api.Fun { return someHead(some, f) })
	for to, begin := 0, 0; begin < len(m.Funs); begin = to {
		for to < len(m.Funs) && m.Funs[to].Unit == m.Funs[begin].Unit {
			to++
		}
		got, e := place.PlaceUnit(m.Program, m.Funs[begin].Unit, heads[:begin])
		want := funsText(judgedUnit(m.Program, heads[:begin], to))
		if e != api.OK || funsText(got) != want {
			t.Fatalf("%d: unit %d of %s by %s: %d %s, not %s", m.seed, m.Funs[begin].Unit, write(m.Program), short(funsText(heads[:begin])), e, short(funsText(got)), short(want))
		}
		again, e := place.PlaceUnit(withoutBodies(m.Program, begin), m.Funs[begin].Unit, heads[:begin])
		if e != api.OK || funsText(again) != want {
			t.Fatalf("%d: unit %d of %s with other bodies ahead: %d %s, not %s", m.seed, m.Funs[begin].Unit, write(m.Program), e, short(funsText(again)), short(want))
		}
		for i, f := range got {
			eachStep(f.Body, nil, nil, func(s api.Step, _, _ path, _ int) {
				if s.Op == api.OCall && s.Code < begin {
					calls++
				}
			})
			if funsText(got[i:i+1]) != funsText(whole.Funs[begin+i:begin+i+1]) {
				others++
			}
		}
	}
	return calls, others
}

// TestAhead: P6.1: PlaceUnit goes by the signatures ahead, whatever stands in the bodies of these functions.
func TestAhead(t *testing.T) {
	t.Parallel()
	calls, others := 0, 0
	for seed := range 2 * rounds {
		some := rand.New(rand.NewSource(int64(seed)))
		for _, m := range inUnits(t, some, seed) {
			c, o := checkAhead(t, some, m)
			calls, others = calls+c, others+o
		}
	}
	if calls < 2*rounds || others < rounds {
		t.Errorf("too few cases: %d calls, %d others", calls, others)
	}
}

// aheadIs looks at what PlaceUnit makes of the last function of a program, by the signatures of all others, which are of a unit ahead.
func aheadIs(t *testing.T, text, ahead, want string) {
	t.Helper()
	p := samples.Program(library + text)
	heads := samples.Program(ahead).Funs
	p.Funs[p.Main].Unit = 1
	wanted := funsText(samples.Program(want).Funs)
	if got, e := place.PlaceUnit(p, 1, heads); e != api.OK || funsText(got) != wanted {
		t.Errorf("%s: %d %s, not %s", ahead, e, funsText(got), wanted)
	}
	if got := funsText(judgedUnit(p, heads, len(p.Funs))); got != wanted {
		t.Errorf("%s: the judge: %s, not %s", ahead, got, wanted)
	}
}

// TestByHeads: what becomes of a call by signatures ahead that say less, or more, than Place finds.
func TestByHeads(t *testing.T) {
	const (
		fst = "fun fst ((* int int)) int [1 int := get #0 0; value 1]; fun main (int) int [1 (* int int) := tuple 0 0; 2 int := call .0 1; value 2]"
		use = `fun use ((-> int int)) int [1 int := int #1; 2 int := apply 0 1; value 2];
		 fun main (int) int [1 (ref int) := ref 0; 2 (-> int int) := fn [bind 3; 4 int := deref 1; value 4]; 5 int := call .0 2; value 5]`
		fn = "2 (-> int int @1 {0}) := fn @1 [bind 3; 4 int := deref 1; value 4];"
	)
	for _, c := range [][3]string{
		// it touches nothing
		{fst, "fun fst 0 1 0 {} ((* int int @0)) int [value 0]",
			"fun main (int) int [new @0; 1 (* int int @0) := tuple 0 0 @0; end @0; 2 int := call .0 @0 1; value 2]"},
		{fst, "fun fst 0 1 0 {0} ((* int int @0)) int [value 0]",
			"fun main (int) int [new @0; 1 (* int int @0) := tuple 0 0 @0; 2 int := call .0 @0 last 1; value 2]"},
		// regions that stand nowhere in it, or in its Touch alone, are new ones at the call
		{fst, "fun fst 0 3 0 {2} ((* int int @1)) int [value 0]",
			"fun main (int) int [new @0; 1 (* int int @0) := tuple 0 0 @0; end @0; new @1; end @1; new @2; 2 int := call .0 @1 @0 @2 last 1; value 2]"},
		// it touches its closure, what the closure touches, both, or nothing
		{use, "fun use 0 1 1 {} ((-> int int @0 {e0})) int [value 0]",
			"fun main (int) int [new @0; 1 (ref int @0) := ref 0 @0; end @0; new @1; " + fn + " end @1; 5 int := call .0 {0} @1 2; value 5]"},
		{use, "fun use 0 1 1 {0} ((-> int int @0 {e0})) int [value 0]",
			"fun main (int) int [new @0; 1 (ref int @0) := ref 0 @0; end @0; new @1; " + fn + " 5 int := call .0 {0} @1 last 2; value 5]"},
		{use, "fun use 0 1 1 {e0} ((-> int int @0 {e0})) int [value 0]",
			"fun main (int) int [new @0; 1 (ref int @0) := ref 0 @0; new @1; " + fn + " end @1; 5 int := call .0 {0} @1 2; end @0; value 5]"},
		{use, "fun use 0 1 1 {0 e0} ((-> int int @0 {e0})) int [value 0]",
			"fun main (int) int [new @0; 1 (ref int @0) := ref 0 @0; new @1; " + fn + " 5 int := call .0 {0} @1 last 2; end @0; value 5]"},
		// a region that stands in an effect alone
		{use, "fun use 0 2 1 {0} ((-> int int @0 {1 e0})) int [value 0]",
			`fun main (int) int [new @0; 1 (ref int @0) := ref 0 @0; end @0; new @1; new @2; end @2;
			 2 (-> int int @1 {0 2}) := fn @1 [bind 3; 4 int := deref 1; value 4]; 5 int := call .0 {0} @1 @2 last 2; value 5]`},
	} {
		aheadIs(t, c[0], c[1], c[2])
	}
}

// TestGroupAhead: P6.5: functions of a unit ahead that call each other, with a hidden region that goes from one to the other. They are no group of the unit that calls them.
func TestGroupAhead(t *testing.T) {
	p := samples.Program(`fun a (int) (-> int int) [1 (* int int) := tuple 0 0; 4 (-> int int) := fn [bind 2; 3 int := get #0 1; value 3]; 5 bool := less 0 0;
	  7 (-> int int) := if 5 [6 (-> int int) := call .1 0; value 6] [value 4]; value 7];
	 fun b (int) (-> int int) [1 (-> int int) := call .0 0; value 1];
	 fun main (int) int [1 (-> int int) := call .0 0; 2 int := apply 1 0; value 2]`)
	p.Funs[2].Unit = 1
	checkUnits(t, made{Program: p})
	funs, e := place.PlaceUnit(p, 0, nil)
	if e != api.OK || len(funs) != 2 || funs[0].Regions != 2 {
		t.Fatalf("PlaceUnit of the unit ahead: %d %s", e, funsText(funs))
	}
	want := "fun main 0 0 0 {} (int) int [new @0; new @1; 1 (-> int int {1}) := call .0 {} @0 @1 keep keep 0; 2 int := apply 1 0; end @0; end @1; value 2];"
	if funs, e = place.PlaceUnit(p, 1, funs); e != api.OK || funsText(funs) != want {
		t.Errorf("PlaceUnit: %d %s, not %s", e, funsText(funs), want)
	}
}

// TestBigAhead: functions ahead that have too many regions or numbers where they are placed are no matter, but the regions and the numbers are that the unit's functions have by their signatures.
func TestBigAhead(t *testing.T) {
	refs := func(n int, region string) string {
		return strings.Join(slices.Repeat([]string{"(ref int" + region + ")"}, n), " ")
	}
	is := func(what, text, ahead string, want api.Errno) {
		t.Helper()
		p := samples.Program(text)
		p.Funs[p.Main].Unit = 1
		if funs, e := place.PlaceUnit(p, 1, samples.Program(ahead).Funs); e != want || (e == api.OK) != (len(funs) == 1) {
			t.Errorf("%s: %d, not %d", what, e, want)
		}
		if _, e := place.PlaceUnit(p, 0, nil); e != api.ErrBig {
			t.Errorf("%s: the unit ahead: %d", what, e)
		}
		if _, e := place.Place(p); e != api.ErrBig {
			t.Errorf("%s: Place: %d", what, e)
		}
	}
	takes := "fun f (" + refs(1025, "") + ") int [3000 int := int #1; value 3000]; fun main (int) int [1 (ref int) := ref 0; 2 int := call .0 " + strings.Repeat("1 ", 1025) + "; value 2]"
	is("many formals", takes, "fun f 0 1 0 {0} ("+refs(1025, " @0")+") int [value 0]", api.OK)
	makes := func(calls int) string {
		return "fun f (int) int [" + listed(1025, func(i int) string { return fmt.Sprintf("%d (ref int) := ref 0;", 1+i) }) + "value 0]; fun main (int) int [" +
			listed(calls, func(i int) string { return fmt.Sprintf("%d int := call .0 0;", 1+i) }) + "value 0]"
	}
	is("many locals", makes(1), "fun f (int) int [value 0]", api.OK)
	is("as many regions of calls as may be", makes(8), "fun f 0 128 0 {} (int) int [value 0]", api.OK)
	is("more", makes(9), "fun f 0 128 0 {} (int) int [value 0]", api.ErrBig)
	gives := "fun f (int) (-> int int) [" + listed(1025, func(i int) string { return fmt.Sprintf("%d (ref int) := ref 0;", 1+i) }) +
		"3000 (-> int int) := fn [bind 3001; value 3001]; value 3000]; fun main (int) int [" + listed(2, func(i int) string { return fmt.Sprintf("%d (-> int int) := call .0 0;", 1+i) }) +
		"3 (* " + strings.Repeat("(-> int int) ", 33) + ") := tuple " + strings.Repeat("1 ", 33) + "; value 0]"
	hides := func(regions int) string {
		return fmt.Sprintf("fun f 0 %d 1 {} (int) (-> int int @0 {%s e0}) [value 0]", regions, listed(regions, func(i int) string { return fmt.Sprint(i) }))
	}
	// two types of calls, a tuple of 33 of one of them, and the regions of the calls
	is("as many numbers as may be", gives, hides(api.MaxNodes/37), api.OK)
	is("more numbers", gives, hides(api.MaxNodes/37+1), api.ErrBig)
}
