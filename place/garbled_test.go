package place_test

import (
	"math"
	"math/rand"
	"reflect"
	"slices"
	"testing"

	"heriot/api"
	"heriot/flat"
	"heriot/place"
	"heriot/samples"
	"heriot/steps"
)

// garble changes something somewhere in what is pointed to.
func garble(some *rand.Rand, v reflect.Value) {
	switch v.Kind() {
	case reflect.Struct:
		garble(some, v.Field(some.Intn(v.NumField())))
	case reflect.Int, reflect.Int64:
		numbers := []int64{-1, 0, 1, 2, 3, 17, v.Int() + 1, v.Int() - 1, math.MaxInt64, math.MinInt64}
		v.SetInt(numbers[some.Intn(len(numbers))])
	case reflect.String:
		v.SetString("x")
	case reflect.Slice:
		switch n := v.Len(); {
		case n > 0 && some.Intn(8) > 0:
			garble(some, v.Index(some.Intn(n)))
		case n > 0 && some.Intn(2) == 0:
			v.Set(v.Slice(0, n-1))
		case n > 0:
			v.Set(reflect.AppendSlice(v.Slice3(0, n, n), v.Slice(some.Intn(n), n)))
		default:
			v.Set(reflect.MakeSlice(v.Type(), 1, 1))
		}
	}
}

// TestGarbled: P1: programs of any shape. Place says what Valid says, and all else with an error is zero.
func TestGarbled(t *testing.T) {
	t.Parallel()
	counts := map[api.Errno]int{}
	for seed := range 30 * rounds {
		some := rand.New(rand.NewSource(int64(seed)))
		p := samples.Flat(seed % 50)
		for range 1 + some.Intn(3) {
			garble(some, reflect.ValueOf(&p).Elem())
		}
		valid := flat.Valid(p)
		q, e := place.Place(p)
		counts[e]++
		if valid != api.OK && e != valid || e != api.OK && !reflect.DeepEqual(q, api.Program{}) {
			t.Fatalf("%d: Place: %d, not %d: %+v", seed, e, valid, q)
		}
		if checked, _ := steps.Check(q); e == api.OK && checked != api.OK {
			t.Fatalf("%d: Check: %d: %s", seed, checked, write(q))
		}
		if funs, e := place.PlaceUnit(p, some.Intn(3), q.Funs); valid != api.OK && e != valid || e != api.OK && len(funs) > 0 {
			t.Fatalf("%d: PlaceUnit: %d, not %d: %+v", seed, e, valid, funs)
		}
	}
	if counts[api.OK] < rounds || counts[api.ErrFlat] < rounds {
		t.Errorf("too few cases: %v", counts)
	}
}

// TestGarbledWhy: P1: Why of programs of any shape, at any place.
func TestGarbledWhy(t *testing.T) {
	t.Parallel()
	counts := map[bool]int{}
	for seed := range 10 * rounds {
		some := rand.New(rand.NewSource(int64(seed)))
		q := samples.Regions(seed % 50)
		if some.Intn(2) == 0 {
			garble(some, reflect.ValueOf(&q).Elem())
		}
		e, _ := steps.Check(q)
		for range 20 {
			at := api.Spot{Fun: some.Intn(len(q.Funs)+2) - 1}
			for range some.Intn(4) {
				at.Path = append(at.Path, some.Intn(12)-1)
			}
			way, ok := place.Why(q, at, some.Intn(12)-1)
			counts[ok]++
			if ok != (len(way) > 0) || ok && e != api.OK {
				t.Fatalf("%d: Why at %v: %v %v, where Check says %d", seed, at, way, ok, e)
			}
			for _, s := range way {
				if s.Fun != at.Fun {
					t.Fatalf("%d: Why at %v: %v", seed, at, way)
				}
			}
			if ok && isShared(way, at, q) && !isShared(q) {
				t.Fatalf("%d: Why at %v: %v shares memory", seed, at, way)
			}
		}
	}
	if counts[true] < rounds || counts[false] < rounds {
		t.Errorf("too few cases: %v", counts)
	}
}

// isHead tells whether a signature fits a flat function, as the chapter says it.
func isHead(f, p api.Fun) bool {
	if f.Name != p.Name || f.Unit != p.Unit || f.Types != p.Types || len(f.Params) != len(p.Params) || f.Regions < 0 || f.Regions > 1024 {
		return false
	}
	types, plain := append(slices.Clone(f.Params), f.Result), append(slices.Clone(p.Params), p.Result)
	isRight := true
	var walk func(t, u api.Type)
	walk = func(t, u api.Type) {
		isThere := lies(t) && t.Region >= 0 && t.Region < f.Regions || !lies(t) && t.Region == 0
		isPure := acts(t) || len(t.Effect.Regions)+len(t.Effect.Vars) == 0
		isRight = isRight && t.Kind == u.Kind && t.N == u.N && t.Name == u.Name && len(t.Args) == len(u.Args) && isThere && isPure
		for i := range min(len(t.Args), len(u.Args)) {
			walk(t.Args[i], u.Args[i])
		}
	}
	for i := range types {
		walk(types[i], plain[i])
	}
	own := (&head{Fun: f}).different()
	for k, e := range append(own, f.Touch) {
		for _, list := range [][]int{e.Regions, e.Vars} {
			sorted := slices.Compact(slices.Sorted(slices.Values(list)))
			isRight = isRight && slices.Equal(sorted, list)
		}
		isRight = isRight && !slices.ContainsFunc(e.Regions, func(r int) bool { return r < 0 || r >= f.Regions })
		isRight = isRight && !slices.ContainsFunc(e.Vars, func(v int) bool { return v < 0 || v >= f.Effects })
		isRight = isRight && (k == len(own) || slices.Contains(e.Vars, k))
	}
	if !isRight || len(own) != f.Effects {
		return false
	}
	for _, e := range own {
		for _, v := range e.Vars {
			isRight = isRight && !slices.ContainsFunc(own[v].Regions, func(r int) bool { return !slices.Contains(e.Regions, r) })
			isRight = isRight && !slices.ContainsFunc(own[v].Vars, func(x int) bool { return !slices.Contains(e.Vars, x) })
		}
	}
	return isRight
}

// TestGarbledHeads: P1: signatures of any shape ahead.
func TestGarbledHeads(t *testing.T) {
	t.Parallel()
	counts := map[api.Errno]int{}
	p := unitsProgram()
	for seed := range 100 * rounds {
		some := rand.New(rand.NewSource(int64(seed)))
		ahead := aheadFuns(unitAhead)
		f := reflect.ValueOf(&ahead[some.Intn(3)]).Elem()
		for range 1 + some.Intn(2) {
			garble(some, f.Field(some.Intn(f.NumField())))
		}
		want := api.OK
		for i := range ahead {
			if !isHead(ahead[i], p.Funs[i]) {
				want = api.ErrPlace
			}
		}
		funs, e := place.PlaceUnit(p, 2, ahead)
		counts[e]++
		if e != want || (e == api.OK) != (len(funs) == 1) {
			t.Fatalf("%d: PlaceUnit: %d, not %d: %+v", seed, e, want, heads(ahead))
		}
	}
	if counts[api.OK] < rounds || counts[api.ErrPlace] < rounds {
		t.Errorf("too few cases: %v", counts)
	}
}
