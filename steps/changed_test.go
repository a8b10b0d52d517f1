package steps_test

import (
	"math"
	"math/rand"
	"reflect"
	"testing"

	"heriot/api"
	"heriot/flat"
	"heriot/samples"
	"heriot/steps"
)

// all has each operation at least once, in a function, in a lambda, or in both.
const all = library + `
 fun f 1 3 1 {0 1 e0} (v0 int (d0 v0 @0 {e0}) (-> v0 (* v0 v0 @1) @0 {1 e0})) (* v0 (-> int int @1 {2 e0}) @1) [
  new @3; 4 (* v0 v0 @1) := apply 3 0; 5 v0 := get #1 4; new @4;
  7 (-> int int @1 {2 e0}) := fn @1 [bind 6; new @5; 9 bool := bool #0; 8 (* int bool @5) := tuple 6 9 @5; 10 int := get #0 8; end @5; value 10];
  11 v0 := case 2 [end @4; value 0] [bind 12 13; 14 (ref v0 @4) := ref 12 @4; 15 v0 := deref 14; end @4; value 15];
  16 (d2 @3) := make .1; end @3; 17 (* v0 (-> int int @1 {2 e0}) @1) := tuple 11 7 @1; end @0; end @1; value 17];
 fun main (int int) int [new @0; new @1; new @2; 2 (d0 bool @0) := make .0; 3 bool := bool #1; 4 (d0 bool @0) := make .1 3 2 @0; 5 unit := unit;
  6 (-> bool (* bool bool @1) @0 {1}) := fn @0 [bind 7; 8 (* bool bool @1) := tuple 7 3 @1; value 8];
  9 (* bool (-> int int @1 {2}) @1) := call .3 (bool) {} @0 @1 @2 last keep 3 0 4 6;
  10 (-> int int @1 {2}) := get #1 9; 11 int := apply 10 1; 12 (array int @2) := array 1 11 @2; 13 int := len 12; 14 (ref int @1) := ref 13 @1;
  15 int := sub 13 11; 16 unit := set 14 15; 17 int := deref 14; 18 unit := put 12 0 17;
  19 int := handle {1} [20 int := at 12 1; 21 bool := eq 20 17; new @3; end @2; 22 unit := if 21 [23 unit := raise .4 20; end @3; value 23] [end @3; value 5]; value 21]
   [bind 24; 25 int := int #-1; end @1; 26 int := if 24 [value 25] [27 int := mul 0 1; value 27]; value 26]
   [exn 4; bind 28; end @1; value 28] [exn 1; bind 29; 30 int := div 29 17; 31 unit := print 30; end @1; value 29];
  32 int := mod 19 17; value 32]`

func TestAll(t *testing.T) {
	checkIs(t, samples.Program(all), api.OK, api.Spot{})
}

// eachChange changes each field, at all depths, in some ways, and changes it back.
func eachChange(v reflect.Value, visit func()) {
	old := reflect.ValueOf(v.Interface())
	try := func(other reflect.Value) {
		v.Set(other)
		visit()
		v.Set(old)
	}
	switch v.Kind() {
	case reflect.Struct:
		for i := range v.NumField() {
			eachChange(v.Field(i), visit)
		}
	case reflect.Int, reflect.Int64:
		for _, n := range []int64{-1, 0, 1, 2, 3, 17, v.Int() + 1, math.MaxInt64, math.MinInt64} {
			if n != v.Int() {
				try(reflect.ValueOf(n).Convert(v.Type()))
			}
		}
	case reflect.String:
		try(reflect.ValueOf("x"))
	case reflect.Slice:
		for i := range v.Len() {
			eachChange(v.Index(i), visit)
		}
		more := reflect.MakeSlice(v.Type(), 1, 1)
		if v.Len() > 0 {
			try(v.Slice(1, v.Len()))
			try(v.Slice(0, v.Len()-1))
			more.Index(0).Set(v.Index(v.Len() - 1))
		}
		try(reflect.AppendSlice(v.Slice3(0, v.Len(), v.Len()), more))
		swapped(v, try)
	}
}

// swapped exchanges elements of a list that stand side by side, and puts each at the list's begin.
func swapped(v reflect.Value, try func(reflect.Value)) {
	for i := 1; i < v.Len(); i++ {
		other := reflect.AppendSlice(reflect.MakeSlice(v.Type(), 0, v.Len()), v)
		other.Index(i).Set(v.Index(i - 1))
		other.Index(i - 1).Set(v.Index(i))
		try(other)
	}
}

// checkAll holds all functions against what the judge and the teller say of a program.
func checkAll(t *testing.T, p api.Program, args []int64, fuel int) api.Errno {
	t.Helper()
	want := judged(p)
	if e, spot := steps.Check(p); e != want.e || !sameSpot(spot, want.spot) {
		t.Fatalf("Check: %d %v, not %d %v: %s", e, spot, want.e, want.spot, samples.Write(p))
	}
	first := want.e == api.ErrShape || want.e == api.ErrBig && sameSpot(want.spot, api.Spot{})
	if got := steps.Erase(p); first != (len(got.Funs) == 0) {
		t.Fatalf("Erase: %+v", got)
	}
	run, looks := stuck, [][]api.Frame(nil)
	right := !first && len(p.Funs[p.Main].Params) == len(args)
	if right && judgedAs(p, true).e == api.OK {
		run, looks = tell(p, args, fuel, want.e == api.OK)
	}
	if got := steps.Run(p, args, fuel); !isSameRun(got, run) {
		t.Fatalf("Run: %+v, not %+v: %s", got, run, samples.Write(p))
	}
	checkResult(t, p, args, fuel, want.e, run)
	if want.e == api.OK && !right {
		want.e = api.ErrShape
	}
	k := len(looks)/2 + 1
	frames, e := steps.Frames(p, args, fuel, k)
	if k > len(looks) {
		looks = make([][]api.Frame, k)
	}
	if e != want.e || !areSameFrames(frames, looks[k-1]) {
		t.Fatalf("Frames: %v %d, not %v %d", frames, e, looks[k-1], want.e)
	}
	return want.e
}

// checkResult looks at a run of a program of which Check gives an error: P5.4 and P5.5.
func checkResult(t *testing.T, p api.Program, args []int64, fuel int, e api.Errno, run api.Run) {
	t.Helper()
	fault := run.Result.Fault
	if e == api.OK && (fault == api.FTouch || fault != api.FFuel && run.Left != 0) {
		t.Fatalf("%+v, left %d: %s", run.Result, run.Left, samples.Write(p))
	}
	if fault == api.FStuck || fault == api.FTouch {
		return
	}
	if want := flat.Run(steps.Erase(p), args, fuel); !isSameResult(run.Result, want) {
		t.Fatalf("%+v, not %+v: %s", run.Result, want, samples.Write(p))
	}
}

// TestChanged: P5.1 to P5.3: programs in which one thing is changed. Each field at all depths gets other values, and each list gets shorter, longer and ordered in another way.
func TestChanged(t *testing.T) {
	t.Parallel()
	counts := map[api.Errno]int{}
	p := samples.Program(all)
	eachChange(reflect.ValueOf(&p).Elem(), func() {
		counts[checkAll(t, p, []int64{1, 2}, 20)]++
	})
	for _, e := range []api.Errno{api.OK, api.ErrShape, api.ErrScope, api.ErrType, api.ErrEffect, api.ErrLive} {
		if counts[e] < 20 {
			t.Errorf("too few cases: %v", counts)
		}
	}
}

// TestSpoiled: P5.1 to P5.3: programs by chance in which some things are changed.
func TestSpoiled(t *testing.T) {
	t.Parallel()
	counts := map[api.Errno]int{}
	for seed := range rounds {
		m := sample(seed)
		var changes int
		eachChange(reflect.ValueOf(&m.Program).Elem(), func() { changes++ })
		some := rand.New(rand.NewSource(int64(seed)))
		chosen := map[int]bool{}
		for range 30 {
			chosen[some.Intn(changes)] = true
		}
		at := 0
		eachChange(reflect.ValueOf(&m.Program).Elem(), func() {
			at++
			if chosen[at] {
				counts[checkAll(t, m.Program, m.args, m.fuel)]++
			}
		})
	}
	if counts[api.OK] < rounds || counts[api.ErrShape] < rounds || counts[api.ErrScope] < rounds/2 {
		t.Errorf("too few cases: %v", counts)
	}
}
