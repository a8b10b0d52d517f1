package flat_test

import (
	"math"
	"math/rand"
	"reflect"
	"testing"

	"heriot/api"
	"heriot/flat"
	"heriot/plain"
	"heriot/samples"
)

const rounds = 100

// made is a program by chance, with arguments and a fuel for it.
type made struct {
	seed int
	api.Program
	args []int64
	fuel int
}

// sample makes a program, a new one each time.
func sample(t *testing.T, seed int) made {
	t.Helper()
	some := rand.New(rand.NewSource(int64(seed)))
	p := flattened(t, typedOf(t, samples.Texts(seed)...))
	return made{seed, p, []int64{int64(some.Intn(8)), int64(some.Intn(8) - 2)}, some.Intn(1 + some.Intn(400))}
}

// TestPlainMeaning: P4.2 and P4.3, for programs by chance.
func TestPlainMeaning(t *testing.T) {
	t.Parallel()
	faults := map[int]int{}
	long := 0
	for seed := range 4 * rounds {
		m := sample(t, seed)
		units := readUnits(t, samples.Texts(seed)...)
		want := plain.Run(units, m.args, m.fuel)
		got := flat.Run(m.Program, m.args, m.fuel)
		if !isSame(got, want) {
			t.Fatalf("%d with %v, fuel %d: %+v, not %+v", seed, m.args, m.fuel, got, want)
		}
		faults[got.Fault]++
		if got.Ticks > 20 {
			long++
		}
	}
	if faults[api.FNone] < rounds || faults[api.FExn] < rounds || faults[api.FFuel] < rounds/3 || long < rounds {
		t.Errorf("too few cases: %v, %d are long", faults, long)
	}
}

// TestNeverStuck: P4.4.
func TestNeverStuck(t *testing.T) {
	t.Parallel()
	ints := []int64{0, 1, -1, 5, math.MaxInt64, math.MinInt64}
	for seed := range rounds {
		m := sample(t, seed)
		args := []int64{ints[seed%6], ints[seed/6%6]}
		var ahead api.Result
		for i, fuel := range []int{math.MinInt, -1, 0, 1, 20, 50, 500, api.MaxFuel, plenty} {
			got := flat.Run(m.Program, args, fuel)
			if got.Fault == api.FStuck || got.Fault == api.FTouch {
				t.Fatalf("%d with %v, fuel %d: %+v", seed, args, fuel, got)
			}
			if got.Fault == api.FFuel && got.Ticks != min(max(fuel, 0), api.MaxFuel) {
				t.Fatalf("%d with %v, fuel %d: %+v", seed, args, fuel, got)
			}
			if i > 0 && ahead.Fault != api.FFuel && !isSame(got, ahead) {
				t.Fatalf("%d with %v, fuel %d: %+v, not %+v", seed, args, fuel, got, ahead)
			}
			ahead = got
		}
		for _, others := range [][]int64{nil, args[:1], {1, 2, 3}} {
			if got := flat.Run(m.Program, others, m.fuel); !isSame(got, stuck) {
				t.Fatalf("%d with %v: %+v", seed, others, got)
			}
		}
	}
}

// eachBlock goes through the blocks of a function.
func eachBlock(b *api.Block, visit func(b *api.Block)) {
	visit(b)
	for i := range b.Steps {
		for j := range b.Steps[i].Blocks {
			eachBlock(&b.Steps[i].Blocks[j], visit)
		}
	}
}

// renumber gives other numbers to all variables of a function but its parameters.
func renumber(some *rand.Rand, f *api.Fun) {
	others := some.Perm(api.MaxNodes - len(f.Params))
	anew := func(list ...*int) {
		for _, v := range list {
			if *v >= len(f.Params) {
				*v = len(f.Params) + others[*v-len(f.Params)]
			}
		}
	}
	eachBlock(&f.Body, func(b *api.Block) {
		anew(&b.Value)
		for i := range b.Bind {
			anew(&b.Bind[i])
		}
		for i := range b.Steps {
			s := &b.Steps[i]
			anew(&s.Out)
			for j := range s.Args {
				anew(&s.Args[j])
			}
		}
	})
}

// TestOtherNumbers: P4.5.
func TestOtherNumbers(t *testing.T) {
	t.Parallel()
	for seed := range rounds {
		m := sample(t, seed)
		want := flat.Run(m.Program, m.args, m.fuel)
		some := rand.New(rand.NewSource(int64(seed)))
		for i := range m.Funs {
			renumber(some, &m.Funs[i])
		}
		if e := flat.Valid(m.Program); e != api.OK {
			t.Fatalf("%d: %d", seed, e)
		}
		if got := flat.Run(m.Program, m.args, m.fuel); !isSame(got, want) {
			t.Fatalf("%d: %+v, not %+v", seed, got, want)
		}
	}
}

// all has each operation at least once.
const all = library + `
 fun f 2 (v0 v1 int (d0 v0)) (* v0 (-> int int)) [4 bool := less 2 2; 5 int := if 4 [value 2] [6 int := int #3; value 6];
  8 (-> int int) := fn [bind 7; 9 int := add 7 5; 10 unit := print 9; value 9];
  11 v0 := case 3 [value 0] [bind 12 13; 14 v0 := call .0 (v0) 12; value 14]; 15 (* v0 (-> int int)) := tuple 11 8; value 15];
 fun main (int int) int [2 (d0 bool) := make .0; 3 bool := bool #1; 4 (d0 bool) := make .1 3 2; 5 unit := unit;
  6 (* bool (-> int int)) := call .2 (bool unit) 3 5 0 4; 7 (-> int int) := get #1 6; 8 int := apply 7 1;
  9 (array int) := array 1 8; 10 int := len 9; 11 (ref int) := ref 10; 12 int := sub 10 8; 13 unit := set 11 12; 14 int := deref 11;
  15 unit := put 9 0 14; 16 int := handle [17 int := at 9 1; 18 bool := eq 17 14; 19 unit := if 18 [20 unit := raise .4 17; value 20] [value 5]; value 18]
   [bind 21; 22 int := int #-1; 23 int := if 21 [value 22] [24 int := mul 0 1; value 24]; value 23] [exn 4; bind 25; value 25] [exn 1; bind 26; 27 int := div 26 14; value 27];
  28 int := mod 16 14; value 28]`

// TestChanged: P4.1: programs in which one thing is changed. Each field at all depths gets other values, and each list gets shorter and longer.
func TestChanged(t *testing.T) {
	t.Parallel()
	p := samples.Program(all)
	if e := flat.Valid(p); e != api.OK {
		t.Fatalf("%d", e)
	}
	counts := map[api.Errno]int{}
	eachChange(reflect.ValueOf(&p).Elem(), func() {
		want := judged(p)
		counts[want]++
		if got := flat.Valid(p); got != want {
			t.Fatalf("Valid: %d, not %d: %+v", got, want, p)
		}
		result := stuck
		if want == api.OK && len(p.Funs[p.Main].Params) == 2 {
			result = tell(p, []int64{1, 2}, 20)
		}
		if got := flat.Run(p, []int64{1, 2}, 20); !isSame(got, result) {
			t.Fatalf("Run: %+v, not %+v: %+v", got, result, p)
		}
	})
	if counts[api.OK] < 100 || counts[api.ErrFlat] < 2000 {
		t.Errorf("too few cases: %v", counts)
	}
}

// eachChange changes each field, at all depths, in some ways, and changes it back.
func eachChange(v reflect.Value, visit func()) {
	old := reflect.ValueOf(v.Interface())
	try := func(other reflect.Value) {
		v.Set(other)
		visit()
		v.Set(old)
	}
	switch v.Kind() {
	case reflect.Struct:
		for i := range v.NumField() {
			eachChange(v.Field(i), visit)
		}
	case reflect.Int, reflect.Int64:
		for _, n := range []int64{-1, 0, 1, 2, 3, 17, v.Int() + 1, math.MaxInt64, math.MinInt64} {
			if n != v.Int() {
				try(reflect.ValueOf(n).Convert(v.Type()))
			}
		}
	case reflect.String:
		try(reflect.ValueOf("x"))
	case reflect.Slice:
		for i := range v.Len() {
			eachChange(v.Index(i), visit)
		}
		more := reflect.MakeSlice(v.Type(), 1, 1)
		if v.Len() > 0 {
			try(v.Slice(1, v.Len()))
			try(v.Slice(0, v.Len()-1))
			more.Index(0).Set(v.Index(v.Len() - 1))
		}
		try(reflect.AppendSlice(v.Slice3(0, v.Len(), v.Len()), more))
	}
}

// TestSpoiled: P4.1: programs by chance in which some things are changed.
func TestSpoiled(t *testing.T) {
	t.Parallel()
	counts := map[api.Errno]int{}
	for seed := range rounds / 2 {
		m := sample(t, seed)
		var changes int
		eachChange(reflect.ValueOf(&m.Program).Elem(), func() { changes++ })
		some := rand.New(rand.NewSource(int64(seed)))
		chosen := map[int]bool{}
		for range 40 {
			chosen[some.Intn(changes)] = true
		}
		at := 0
		eachChange(reflect.ValueOf(&m.Program).Elem(), func() {
			at++
			if !chosen[at] {
				return
			}
			want := judged(m.Program)
			counts[want]++
			if got := flat.Valid(m.Program); got != want {
				t.Fatalf("%d: Valid: %d, not %d", seed, got, want)
			}
			if want != api.OK || len(m.Funs[m.Main].Params) != 2 {
				return
			}
			result := tell(m.Program, m.args, m.fuel)
			if got := flat.Run(m.Program, m.args, m.fuel); !isSame(got, result) {
				t.Fatalf("%d: Run: %+v, not %+v", seed, got, result)
			}
		})
	}
	if counts[api.OK] < rounds/4 || counts[api.ErrFlat] < 2*rounds {
		t.Errorf("too few cases: %v", counts)
	}
}
