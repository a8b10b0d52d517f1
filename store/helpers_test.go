package store_test

import (
	"math"
	"testing"

	"heriot/api"
	"heriot/store"
)

// keeper is what a store and the judge can do.
type keeper interface {
	Open() int
	Close(region int) api.Errno
	Alloc(region, words int) (int, api.Errno)
	Get(region, address, field int) (int64, api.Errno)
	Set(region, address, field int, value int64) api.Errno
	Words() int
	Pages() int
	Free() int
}

// odd are numbers that are no region, no address, no field and no size in most stores.
var odd = []int{-1, math.MinInt, math.MaxInt, math.MinInt + 1, -16, api.MaxArray + 1, api.MaxArray + 2, 1 << 32, 1 << 40}

func opens(t *testing.T, s keeper, want int) {
	t.Helper()
	if got := s.Open(); got != want {
		t.Errorf("Open: %d, not %d", got, want)
	}
}

func closes(t *testing.T, s keeper, region int, want api.Errno) {
	t.Helper()
	if got := s.Close(region); got != want {
		t.Errorf("Close(%d): %d, not %d", region, got, want)
	}
}

// allocates looks at an Alloc that gives an address.
func allocates(t *testing.T, s keeper, region, words, want int) {
	t.Helper()
	if got, e := s.Alloc(region, words); got != want || e != api.OK {
		t.Errorf("Alloc(%d, %d): %d and error %d, not %d", region, words, got, e, want)
	}
}

// refuses looks at an Alloc that gives an error.
func refuses(t *testing.T, s keeper, region, words int, want api.Errno) {
	t.Helper()
	if got, e := s.Alloc(region, words); got != 0 || e != want {
		t.Errorf("Alloc(%d, %d): %d and error %d, not error %d", region, words, got, e, want)
	}
}

func has(t *testing.T, s keeper, region, address, field int, want int64) {
	t.Helper()
	if got, e := s.Get(region, address, field); got != want || e != api.OK {
		t.Errorf("Get(%d, %d, %d): %d and error %d, not %d", region, address, field, got, e, want)
	}
}

func sets(t *testing.T, s keeper, region, address, field int, value int64) {
	t.Helper()
	if e := s.Set(region, address, field, value); e != api.OK {
		t.Errorf("Set(%d, %d, %d, %d): error %d", region, address, field, value, e)
	}
}

// hasNot looks at a field that can be neither read nor written.
func hasNot(t *testing.T, s keeper, region, address, field int, want api.Errno) {
	t.Helper()
	if got, e := s.Get(region, address, field); got != 0 || e != want {
		t.Errorf("Get(%d, %d, %d): %d and error %d, not error %d", region, address, field, got, e, want)
	}
	if e := s.Set(region, address, field, 7); e != want {
		t.Errorf("Set(%d, %d, %d, 7): error %d, not %d", region, address, field, e, want)
	}
}

func counts(t *testing.T, s keeper, words, pages, free int) {
	t.Helper()
	if s.Words() != words || s.Pages() != pages || s.Free() != free {
		t.Errorf("%d words, %d pages, %d free, not %d, %d, %d", s.Words(), s.Pages(), s.Free(), words, pages, free)
	}
}

// made is a store with some regions.
func made(regions int) *store.Store {
	s := store.New()
	for range regions {
		s.Open()
	}
	return s
}
