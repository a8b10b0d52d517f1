package place_test

import (
	"math"
	"math/rand"
	"slices"
	"testing"

	"heriot/api"
	"heriot/place"
	"heriot/samples"
	"heriot/steps"
)

// heads are functions without their bodies.
func heads(funs []api.Fun) []api.Fun {
	return each(funs, func(f api.Fun) api.Fun {
		f.Body = api.Block{Value: -1}
		return f
	})
}

// funsText writes functions out, so that they can be compared.
func funsText(funs []api.Fun) string { return samples.Write(api.Program{Funs: funs}) }

// checkUnits looks at whether the units of a program, one by one, are what it is as a whole.
func checkUnits(t *testing.T, m made) int {
	t.Helper()
	q := placed(t, m.Program)
	count := 0
	var ahead []api.Fun
	for unit := m.Funs[0].Unit - 1; unit <= m.Funs[len(m.Funs)-1].Unit+1; unit++ {
		got, e := place.PlaceUnit(m.Program, unit, heads(ahead))
		var want []api.Fun
		for i, f := range m.Funs {
			if f.Unit == unit {
				want = append(want, q.Funs[i])
			}
		}
		if e != api.OK || funsText(got) != funsText(want) || !slices.EqualFunc(got, want, func(f, g api.Fun) bool { return f.Unit == g.Unit }) {
			t.Fatalf("%d: unit %d: %d %s, not %s", m.seed, unit, e, short(funsText(got)), short(funsText(want)))
		}
		if len(ahead) > 0 && len(got) > 0 {
			count++
		}
		if isShared(ahead, got, m.Program) && !isShared(m.Program) {
			t.Fatalf("%d: unit %d shares memory", m.seed, unit)
		}
		ahead = append(ahead, got...)
	}
	return count
}

// inUnits are programs by chance of several units: those of texts, and such whose functions are given to units.
func inUnits(t *testing.T, some *rand.Rand, seed int) []made {
	t.Helper()
	rising := made{seed: seed, Program: steps.Erase(samples.Regions(seed))}
	unit := some.Intn(5) - 2
	for i := range rising.Funs {
		rising.Funs[i].Unit = unit
		unit += some.Intn(3)
	}
	two := made{seed: seed, Program: samples.Flat(seed)}
	two.Funs[two.Main].Unit = 1
	out := []made{rising, two}
	if p, ok := byTexts(t, seed); ok && seed%8 == 0 {
		out = append(out, made{seed: seed, Program: p})
	}
	return out
}

// TestUnits: P6.5 (and P7): the units of texts, and of programs whose functions are given to units.
func TestUnits(t *testing.T) {
	t.Parallel()
	count := 0
	for seed := range 2 * rounds {
		for _, m := range inUnits(t, rand.New(rand.NewSource(int64(seed))), seed) {
			count += checkUnits(t, m)
		}
	}
	if count < 2*rounds {
		t.Errorf("too few cases: %d", count)
	}
}

// unitProgram has functions of the units 0 to 2, and unitAhead the signatures of those of the units 0 and 1.
const (
	unitProgram = library + `fun a ((-> int int) (* int int)) int [2 int := get #0 1; 3 int := apply 0 2; value 3];
	 fun b (int) (-> int int) [1 (ref int) := ref 0; 2 (-> int int) := fn [bind 3; 4 int := deref 1; 5 int := add 3 4; value 5]; value 2];
	 fun c ((-> int int) (-> int int) bool) int [5 (-> int int) := if 2 [value 0] [3 (-> int int) := fn [bind 4; 6 int := apply 1 4; value 6]; value 3]; 11 int := int #1; value 11];
	 fun main (int) int [1 (-> int int) := call .1 0; 2 (* int int) := tuple 0 0; 3 int := call .0 1 2; value 3]`
	unitAhead = `fun a 0 2 1 {0 1 e0} ((-> int int @0 {e0}) (* int int @1)) int [value 0];
	 fun b 0 2 1 {0 1} (int) (-> int int @0 {1 e0}) [value 0];
	 fun c 0 2 2 {0} ((-> int int @0 {1 e0 e1}) (-> int int @1 {e1}) bool) int [value 0]`
)

func unitsProgram() api.Program {
	p := samples.Program(unitProgram)
	p.Funs[1].Unit, p.Funs[2].Unit, p.Funs[3].Unit = 1, 1, 2
	return p
}

func aheadFuns(text string) []api.Fun {
	funs := samples.Program(text).Funs
	for i := range funs {
		funs[i].Unit = min(i, 1)
	}
	return funs
}

// TestUnitErrors: what is no program for a unit, or no list of functions ahead.
func TestUnitErrors(t *testing.T) {
	p := unitsProgram()
	want := "fun main 0 0 0 {} (int) int [new @0; new @1; 1 (-> int int {1}) := call .1 {} @0 @1 keep keep 0; new @2; 2 (* int int @2) := tuple 0 0 @2; 3 int := call .0 {1} @0 @2 last last 1 2; end @1; value 3];"
	funs, e := place.PlaceUnit(p, 2, aheadFuns(unitAhead))
	if e != api.OK || funsText(funs) != want || funs[0].Unit != 2 {
		t.Fatalf("PlaceUnit: %d %s", e, funsText(funs))
	}
	is := func(what string, p api.Program, unit int, ahead []api.Fun, want api.Errno) {
		t.Helper()
		if funs, e := place.PlaceUnit(p, unit, ahead); e != want || e != api.OK && len(funs) > 0 {
			t.Errorf("%s: %d, not %d: %s", what, e, want, funsText(funs))
		}
	}
	all := aheadFuns(unitAhead)
	is("none ahead", p, 0, nil, api.OK)
	is("one ahead", p, 1, all[:1], api.OK)
	is("no functions of the unit", p, 7, append(aheadFuns(unitAhead), api.Fun{Name: "main", Unit: 2, Params: []api.Type{{}}}), api.OK)
	is("no functions of the unit, nor ahead", p, math.MinInt, nil, api.OK)
	is("too few", p, 2, all[:2], api.ErrPlace)
	is("too many", p, 1, all, api.ErrPlace)
	is("some, where there are none ahead", p, 0, all[:1], api.ErrPlace)
	is("another order", p, 2, []api.Fun{all[0], all[2], all[1]}, api.ErrPlace)

	wrong := unitsProgram()
	wrong.Funs[0].Body.Steps[0].Int = 5
	is("no flat program", wrong, 2, nil, api.ErrFlat)
	wrong = unitsProgram()
	wrong.Funs[0].Unit = 2
	is("units that do not rise", wrong, 0, nil, api.ErrPlace)
	wrong = unitsProgram()
	wrong.Funs[1].Unit, wrong.Funs[2].Unit, wrong.Main = 0, 0, 3
	wrong.Funs[0].Body.Steps = append(wrong.Funs[0].Body.Steps, api.Step{Op: api.OCall, Out: 20, Code: 3, Args: []int{3}})
	is("a call of a later unit", wrong, 0, nil, api.ErrPlace)
	is("a call of a later unit, in another one", wrong, 1, aheadFuns(unitAhead), api.ErrPlace)
}

// TestHeads: which signatures fit.
func TestHeads(t *testing.T) {
	const (
		a = "fun a 0 2 1 {0 1 e0} ((-> int int @0 {e0}) (* int int @1)) int [value 0];"
		b = "fun b 0 2 1 {0 1} (int) (-> int int @0 {1 e0}) [value 0];"
		c = "fun c 0 2 2 {0} ((-> int int @0 {1 e0 e1}) (-> int int @1 {e1}) bool) int [value 0];"
	)
	for _, x := range []struct {
		text string
		want api.Errno
	}{
		{a + b + c, api.OK},
		// other regions, effects and touches than Place finds
		{"fun a 0 1 1 {} ((-> int int @0 {0 e0}) (* int int @0)) int [value 0];" + b + c, api.OK},
		{"fun a 0 1023 1 {0 1022 e0} ((-> int int @1022 {0 e0}) (* int int @5)) int [value 0];" + b + c, api.OK},
		// it fits, but main has its regions and the one that b hides
		{"fun a 0 1024 1 {0 1023 e0} ((-> int int @1023 {0 e0}) (* int int @5)) int [value 0];" + b + c, api.ErrBig},
		{a + "fun b 0 2 1 {e0} (int) (-> int int @1 {e0}) [value 0];" + c, api.OK},
		{a + b + "fun c 0 2 1 {0} ((-> int int @0 {e0}) (-> int int @1 {e0}) bool) int [value 0];", api.OK},
		// names, types
		{"fun x 0 2 1 {0 1 e0} ((-> int int @0 {e0}) (* int int @1)) int [value 0];" + b + c, api.ErrPlace},
		{"fun a 1 2 1 {0 1 e0} ((-> int int @0 {e0}) (* int int @1)) int [value 0];" + b + c, api.ErrPlace},
		{"fun a 0 2 1 {0 1 e0} ((-> int int @0 {e0})) int [value 0];" + b + c, api.ErrPlace},
		{"fun a 0 2 1 {0 1 e0} ((-> int int @0 {e0}) (* int int @1) int) int [value 0];" + b + c, api.ErrPlace},
		{"fun a 0 2 1 {0 1 e0} ((-> int bool @0 {e0}) (* int int @1)) int [value 0];" + b + c, api.ErrPlace},
		{"fun a 0 2 1 {0 1 e0} ((-> int int @0 {e0}) (* int int int @1)) int [value 0];" + b + c, api.ErrPlace},
		{"fun a 0 2 1 {0 1 e0} ((-> int int @0 {e0}) (ref int @1)) int [value 0];" + b + c, api.ErrPlace},
		{"fun a 0 2 1 {0 1 e0} ((-> int int @0 {e0}) (* int int @1)) bool [value 0];" + b + c, api.ErrPlace},
		// regions
		{"fun a 0 1 1 {0 e0} ((-> int int @0 {e0}) (* int int @1)) int [value 0];" + b + c, api.ErrPlace},
		{"fun a 0 1025 1 {0 1 e0} ((-> int int @0 {e0}) (* int int @1)) int [value 0];" + b + c, api.ErrPlace},
		{"fun a 0 2 1 {0 1 e0} ((-> int int @-1 {e0}) (* int int @1)) int [value 0];" + b + c, api.ErrPlace},
		{a + "fun b 0 -1 1 {} (int) (-> int int @0 {e0}) [value 0];" + c, api.ErrPlace},
		// effects
		{"fun a 0 2 1 {0 1 e0} ((-> int int @0 {}) (* int int @1)) int [value 0];" + b + c, api.ErrPlace},
		{"fun a 0 2 0 {0 1} ((-> int int @0 {}) (* int int @1)) int [value 0];" + b + c, api.ErrPlace},
		{"fun a 0 2 2 {0 1 e0} ((-> int int @0 {e0}) (* int int @1)) int [value 0];" + b + c, api.ErrPlace},
		{"fun a 0 2 2 {0 1 e0} ((-> int int @0 {e0 e1}) (* int int @1)) int [value 0];" + b + c, api.ErrPlace},
		{"fun a 0 2 1 {0 1 e0} ((-> int int @0 {2 e0}) (* int int @1)) int [value 0];" + b + c, api.ErrPlace},
		{"fun a 0 2 1 {0 1 e0} ((-> int int @0 {1 0 e0}) (* int int @1)) int [value 0];" + b + c, api.ErrPlace},
		{"fun a 0 2 1 {0 1 e0} ((-> int int @0 {0 0 e0}) (* int int @1)) int [value 0];" + b + c, api.ErrPlace},
		{"fun a 0 2 1 {0 1 e0} ((-> int int @0 {e0 e0}) (* int int @1)) int [value 0];" + b + c, api.ErrPlace},
		{a + b + "fun c 0 2 2 {0} ((-> int int @0 {1 e0 e1}) (-> int int @1 {0 e1}) bool) int [value 0];", api.ErrPlace}, // without all of the other one
		{a + b + "fun c 0 3 2 {0} ((-> int int @0 {1 e0 e1}) (-> int int @1 {1 2 e1}) bool) int [value 0];", api.ErrPlace},
		{a + b + "fun c 0 2 2 {0} ((-> int int @0 {1 e1}) (-> int int @1 {e0}) bool) int [value 0];", api.ErrPlace},
		{a + b + "fun c 0 2 2 {0} ((-> int int @0 {e0 e1}) (-> int int @1 {e0 e1}) bool) int [value 0];", api.ErrPlace},
		{a + b + "fun c 0 2 1 {0} ((-> int int @0 {e0}) (-> int int @1 {0 e0}) bool) int [value 0];", api.ErrPlace},
		// touches
		{"fun a 0 2 1 {0 2 e0} ((-> int int @0 {e0}) (* int int @1)) int [value 0];" + b + c, api.ErrPlace},
		{"fun a 0 2 1 {1 0 e0} ((-> int int @0 {e0}) (* int int @1)) int [value 0];" + b + c, api.ErrPlace},
		{"fun a 0 2 1 {0 1 e1} ((-> int int @0 {e0}) (* int int @1)) int [value 0];" + b + c, api.ErrPlace},
		{"fun a 0 2 1 {-1 1 e0} ((-> int int @0 {e0}) (* int int @1)) int [value 0];" + b + c, api.ErrPlace},
		{"fun a 0 2 1 {0 1 e-1} ((-> int int @0 {e0}) (* int int @1)) int [value 0];" + b + c, api.ErrPlace},
	} {
		funs, e := place.PlaceUnit(unitsProgram(), 2, aheadFuns(x.text))
		if e != x.want || (e == api.OK) != (len(funs) == 1) {
			t.Errorf("%s: %d, not %d: %s", x.text, e, x.want, funsText(funs))
		}
	}
	change := func(what string, to func(f *api.Fun), want api.Errno) {
		ahead := aheadFuns(a + b + c)
		to(&ahead[0])
		if funs, e := place.PlaceUnit(unitsProgram(), 2, ahead); e != want {
			t.Errorf("%s: %d, not %d: %s", what, e, want, funsText(funs))
		}
	}
	change("another unit", func(f *api.Fun) { f.Unit = 1 }, api.ErrPlace)
	change("a name in a type", func(f *api.Fun) { f.Result.Name = "x" }, api.ErrPlace)
	change("a region of an int", func(f *api.Fun) { f.Result.Region = 1 }, api.ErrPlace)
	change("an effect of a tuple", func(f *api.Fun) { f.Params[1].Effect.Vars = []int{0} }, api.ErrPlace)
	change("an empty effect of an int", func(f *api.Fun) { f.Result.Effect = api.Effect{Regions: []int{}, Vars: []int{}} }, api.OK)
	change("a body", func(f *api.Fun) { f.Body = api.Block{Code: 7, Bind: []int{-1}, Steps: make([]api.Step, 3)} }, api.OK)
}
