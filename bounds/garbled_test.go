package bounds_test

import (
	"math"
	"math/rand"
	"reflect"
	"slices"
	"testing"

	"heriot/api"
	"heriot/bounds"
	"heriot/samples"
	"heriot/steps"
)

// garble changes something somewhere in what is pointed to.
func garble(some *rand.Rand, v reflect.Value) {
	switch v.Kind() {
	case reflect.Struct:
		garble(some, v.Field(some.Intn(v.NumField())))
	case reflect.Bool:
		v.SetBool(!v.Bool())
	case reflect.Int, reflect.Int64:
		numbers := []int64{-1, 0, 1, 2, 3, 17, v.Int() + 1, v.Int() - 1, 1 << 50, math.MaxInt64, math.MinInt64}
		v.SetInt(numbers[some.Intn(len(numbers))])
	case reflect.String:
		v.SetString("x")
	case reflect.Slice:
		switch n := v.Len(); {
		case n > 0 && some.Intn(8) > 0:
			garble(some, v.Index(some.Intn(n)))
		case n > 0 && some.Intn(2) == 0:
			v.Set(v.Slice(0, n-1))
		case n > 0:
			v.Set(reflect.AppendSlice(v.Slice3(0, n, n), v.Slice(some.Intn(n), n)))
		default:
			v.Set(reflect.MakeSlice(v.Type(), 1, 1))
		}
	}
}

// TestGarbledCerts: P1 and P9.1: certificates of any shape.
func TestGarbledCerts(t *testing.T) {
	t.Parallel()
	counts := map[api.Errno]int{}
	for seed := range 140 {
		m, ok := sample(t, seed)
		if !ok {
			continue
		}
		found, e := bounds.Find(m.Program)
		if e != api.OK {
			found = []api.Cert{{Fun: m.Main}}
		}
		some := rand.New(rand.NewSource(int64(seed)))
		for range 25 {
			certs := cloned(found)
			for range 1 + some.Intn(3) {
				garble(some, reflect.ValueOf(&certs).Elem())
			}
			want := judged(m.Program, certs, nil)
			counts[want]++
			if got := bounds.Verify(m.Program, certs); got != want {
				t.Fatalf("%s: Verify: %d, not %d: %s", m.name, got, want, shown(m.Program, certs))
			}
			unit := some.Intn(4) - 1
			if got, want := bounds.VerifyUnit(m.Program, unit, certs), judged(m.Program, certs, &unit); got != want {
				t.Fatalf("%s: VerifyUnit: %d, not %d: %s", m.name, got, want, shown(m.Program, certs))
			}
			if words, e := bounds.Bound(m.Program, certs, []int64{3, 4}); e != want || e != api.OK && words != 0 || words < 0 {
				t.Fatalf("%s: Bound: %d %d, not %d: %s", m.name, words, e, want, shown(m.Program, certs))
			}
		}
	}
	if counts[api.OK] < 25 || counts[api.ErrBound] < 40 || counts[api.ErrCert] < 700 {
		t.Errorf("too few cases: %v", counts)
	}
}

// TestGarbledPrograms: P1: programs of any shape: all say what Check says, or what holds.
func TestGarbledPrograms(t *testing.T) {
	t.Parallel()
	counts := map[api.Errno]int{}
	for seed := range 1800 {
		some := rand.New(rand.NewSource(int64(seed)))
		p := []func(int) api.Program{samples.Regions, samples.Mutual, samples.Straight}[seed%3](seed % 90)
		certs, _ := bounds.Find(p)
		for range 1 + some.Intn(2) {
			garble(some, reflect.ValueOf(&p).Elem())
		}
		checked, _ := steps.Check(p)
		counts[checked]++
		want := checked
		if checked == api.OK {
			want = judged(p, certs, nil)
		}
		if got := bounds.Verify(p, certs); got != want {
			t.Fatalf("%d: Verify: %d, not %d: %s", seed, got, want, shown(p, certs))
		}
		others, e := bounds.Find(p)
		if e != checked && (checked != api.OK || e != api.ErrFinite) || e != api.OK && others != nil {
			t.Fatalf("%d: Find: %v %d, where Check says %d", seed, others, e, checked)
		}
		if e == api.OK {
			verifiedIs(t, p, others, api.OK)
		}
		counts, e := bounds.Finite(p)
		if e != checked || e != api.OK && counts != nil || e == api.OK && !slices.Equal(counts, counted(p)) {
			t.Fatalf("%d: Finite: %v %d, where Check says %d", seed, counts, e, checked)
		}
	}
	if counts[api.OK] < 300 || counts[api.ErrShape] < 700 {
		t.Errorf("too few cases: %v", counts)
	}
}
