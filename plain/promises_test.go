package plain_test

import (
	"math"
	"math/rand"
	"testing"

	"heriot/api"
	"heriot/plain"
	"heriot/samples"
	"heriot/types"
)

const rounds = 120

// made is a program by chance whose types are found, with arguments and a fuel for it.
type made struct {
	seed  int
	units []api.Unit
	args  []int64
	fuel  int
}

// eachProgram goes through programs by chance.
func eachProgram(t *testing.T, visit func(p made)) {
	t.Helper()
	taken := 0
	for seed := range rounds {
		units := readUnits(t, samples.Texts(seed)...)
		if _, r := types.Infer(units); r.E != api.OK {
			continue
		}
		taken++
		some := rand.New(rand.NewSource(int64(seed)))
		args := []int64{int64(some.Intn(8)), int64(some.Intn(8) - 2)}
		visit(made{seed, units, args, some.Intn(1 + some.Intn(400))})
	}
	if taken < rounds*9/10 {
		t.Errorf("only %d of %d programs have types", taken, rounds)
	}
}

// TestMeaning: P3.1, and P3.2 for programs by chance.
func TestMeaning(t *testing.T) {
	t.Parallel()
	faults := map[int]int{}
	printing, long := 0, 0
	eachProgram(t, func(p made) {
		want := tell(p.units, p.args, p.fuel)
		got := plain.Run(p.units, p.args, p.fuel)
		if !isSame(got, want) {
			t.Fatalf("%d: %+v, not %+v", p.seed, got, want)
		}
		faults[got.Fault]++
		if len(got.Outs) > 0 {
			printing++
		}
		if got.Ticks > 20 {
			long++
		}
	})
	if faults[api.FNone] < rounds/5 || faults[api.FExn] < rounds/10 || faults[api.FFuel] < rounds/10 || printing < rounds/10 || long < rounds/5 {
		t.Errorf("too few cases: %v, %d print, %d are long", faults, printing, long)
	}
}

// TestTypedRuns: P3.2: no run of a program whose types are found is stuck, whatever the ints and the fuel; with other numbers of arguments all are.
func TestTypedRuns(t *testing.T) {
	t.Parallel()
	ints := []int64{0, 1, -1, 5, math.MaxInt64, math.MinInt64}
	eachProgram(t, func(p made) {
		args := []int64{ints[p.seed%6], ints[p.seed/6%6]}
		for _, fuel := range []int{math.MinInt, -1, 0, 1, 50, plenty} {
			if got := plain.Run(p.units, args, fuel); got.Fault == api.FStuck {
				t.Fatalf("%d with %v, fuel %d: stuck", p.seed, args, fuel)
			}
		}
		for _, others := range [][]int64{nil, args[:1], {1, 2, 3}} {
			if got := plain.Run(p.units, others, p.fuel); !isSame(got, stuck) {
				t.Fatalf("%d with %v: %+v", p.seed, others, got)
			}
		}
	})
}

// TestOtherFuel: P3.3.
func TestOtherFuel(t *testing.T) {
	t.Parallel()
	whole, less := 0, 0
	eachProgram(t, func(p made) {
		full := plain.Run(p.units, p.args, p.fuel)
		if full.Fault != api.FFuel {
			whole++
			for _, more := range []int{full.Ticks, full.Ticks + 1, p.fuel + 1, api.MaxFuel, plenty} {
				if got := plain.Run(p.units, p.args, more); !isSame(got, full) {
					t.Fatalf("%d with fuel %d: %+v, not %+v", p.seed, more, got, full)
				}
			}
		} else if full.Ticks != p.fuel {
			t.Fatalf("%d with fuel %d: %+v", p.seed, p.fuel, full)
		}
		for _, fuel := range []int{0, 1, full.Ticks / 2, full.Ticks - 1} {
			if fuel < 0 || fuel >= full.Ticks {
				continue
			}
			less++
			got := plain.Run(p.units, p.args, fuel)
			if len(got.Outs) > len(full.Outs) || !isSame(got, spends(fuel, full.Outs[:len(got.Outs)]...)) {
				t.Fatalf("%d with fuel %d: %+v, not the begin of %+v", p.seed, fuel, got, full)
			}
		}
	})
	if whole < rounds/2 || less < rounds {
		t.Errorf("too few cases: %d, %d", whole, less)
	}
}

// rewritings are the other ways in which an expression may be written.
var rewritings = []func(e api.Expr) api.Expr{
	func(e api.Expr) api.Expr { return form(api.ELet, "fresh", e, form(api.EName, "fresh")) },
	func(e api.Expr) api.Expr { return form(api.EGet, "", form(api.ETuple, "", e, integerOf(0))) },
	func(e api.Expr) api.Expr {
		second := form(api.EGet, "", form(api.ETuple, "", integerOf(0), e))
		second.Int = 1
		return second
	},
	func(e api.Expr) api.Expr { return form(api.EDeref, "", form(api.ERef, "", e)) },
	func(e api.Expr) api.Expr {
		yes := form(api.EBool, "")
		yes.Int = 1
		return form(api.EIf, "", yes, e, e)
	},
	func(e api.Expr) api.Expr { return form(api.EHandle, "", e) },
	func(e api.Expr) api.Expr { return form(api.ESeq, "", form(api.EUnit, ""), e) },
	func(e api.Expr) api.Expr { return form(api.ELet, "fresh", integerOf(0), e) },
}

func form(kind int, name string, kids ...api.Expr) api.Expr {
	return api.Expr{Kind: kind, Name: name, Kids: kids}
}

func integerOf(n int64) api.Expr { return api.Expr{Kind: api.EInt, Int: n} }

// expressions are all expressions of a program.
func expressions(units []api.Unit) []*api.Expr {
	var out []*api.Expr
	var visit func(e *api.Expr)
	visit = func(e *api.Expr) {
		out = append(out, e)
		for i := range e.Kids {
			visit(&e.Kids[i])
		}
		for i := range e.Arms {
			visit(&e.Arms[i].Body)
		}
	}
	for _, u := range units {
		for _, d := range u.Decls {
			for i := range d.Funs {
				visit(&d.Funs[i].Body)
			}
		}
	}
	return out
}

// TestRewritings: P3.4, for each rewriting at some place, and for several at once.
func TestRewritings(t *testing.T) {
	t.Parallel()
	taken := make([]int, len(rewritings)+1)
	eachProgram(t, func(p made) {
		some := rand.New(rand.NewSource(int64(p.seed)))
		want := plain.Run(p.units, p.args, p.fuel)
		for which := range taken {
			units := readUnits(t, samples.Texts(p.seed)...) // a copy that may be changed
			for i := range 4 {
				list := expressions(units)
				e := list[some.Intn(len(list))]
				if which < len(rewritings) {
					*e = rewritings[which](*e)
					break
				}
				*e = rewritings[(p.seed+i)%len(rewritings)](*e)
			}
			if _, r := types.Infer(units); r.E != api.OK {
				continue
			}
			taken[which]++
			if got := plain.Run(units, p.args, p.fuel); !isSame(got, want) {
				t.Fatalf("%d, rewriting %d: %+v, not %+v", p.seed, which, got, want)
			}
		}
	})
	for which, count := range taken {
		if count < rounds/2 {
			t.Errorf("too few cases of rewriting %d: %d", which, count)
		}
	}
}

// TestSpoiled: P1: trees that are changed here and there, so that most are no programs any more.
func TestSpoiled(t *testing.T) {
	t.Parallel()
	results := map[bool]int{}
	eachProgram(t, func(p made) {
		some := rand.New(rand.NewSource(int64(p.seed)))
		units := readUnits(t, samples.Texts(p.seed)...) // a copy that may be changed
		for range 1 + some.Intn(2) {
			list := expressions(units)
			spoil(some, list[some.Intn(len(list))])
		}
		want := stuck
		_, r := types.Infer(units)
		if r.E == api.OK {
			want = tell(units, p.args, p.fuel)
		}
		results[r.E == api.OK]++
		if got := plain.Run(units, p.args, p.fuel); !isSame(got, want) {
			t.Fatalf("%d: %+v, not %+v", p.seed, got, want)
		}
	})
	if results[true] < rounds/20 || results[false] < rounds/2 {
		t.Errorf("too few cases: %v", results)
	}
}

// spoil changes one field of an expression.
func spoil(some *rand.Rand, e *api.Expr) {
	switch some.Intn(7) {
	case 0:
		e.Kind = some.Intn(api.ELess+4) - 1
	case 1:
		e.Int = []int64{0, 1, 2, -1, 1000, math.MinInt64}[some.Intn(6)]
	case 2:
		e.Name = []string{"", "n", "k", "x", "keep", "Nil", "Cons", "Div", "no", "f0a", "case", "none"}[some.Intn(12)]
	case 3:
		e.Kids = append(e.Kids, integerOf(1))
	case 4:
		e.Kids = e.Kids[:len(e.Kids)/2]
	case 5:
		e.Arms = append(e.Arms, api.Arm{Name: "Div", Vars: []string{"x"}, Body: integerOf(1)})
	case 6:
		e.At = some.Int()
	}
}
