package store_test

import (
	"math"
	"testing"

	"heriot/api"
	"heriot/store"
)

// TestExamples are the chapter's.
func TestExamples(t *testing.T) {
	s := store.New()
	counts(t, s, 0, 0, 0)
	opens(t, s, 0)
	allocates(t, s, 0, 10, 0)
	allocates(t, s, 0, 6, 10)
	allocates(t, s, 0, 1, 16)
	counts(t, s, 17, 2, 0)

	opens(t, s, 1)
	allocates(t, s, 1, 3, 32)
	closes(t, s, 0, api.OK)
	counts(t, s, 3, 1, 2)
	allocates(t, s, 1, 14, 0)
	allocates(t, s, 1, 33, 48)
	counts(t, s, 50, 5, 1)

	hasNot(t, s, 0, 0, 0, api.ErrRegion)
	hasNot(t, s, 1, 33, 0, api.ErrAddress)
	hasNot(t, s, 1, 32, 3, api.ErrField)
	refuses(t, s, 1, 0, api.ErrSize)
	refuses(t, s, 7, 0, api.ErrRegion)

	s = made(1)
	allocates(t, s, 0, 40, 0)
	allocates(t, s, 0, 2, 48)
	allocates(t, s, 0, 17, 64)
	allocates(t, s, 0, 14, 50)
	counts(t, s, 73, 6, 0)
}

// TestNotMade: a store that is nil, or that New has not made, is empty, and begins nothing.
func TestNotMade(t *testing.T) {
	maker := made(2)
	allocates(t, maker, 1, 3, 0)
	closes(t, maker, 0, api.OK)
	copied, zero := *maker, store.Store{}
	for _, s := range []*store.Store{nil, {}, new(store.Store), &zero, &copied} {
		for range 2 {
			opens(t, s, -1)
			for _, region := range append(odd, 0, 1, 2) {
				closes(t, s, region, api.ErrRegion)
				refuses(t, s, region, 1, api.ErrRegion)
				refuses(t, s, region, 0, api.ErrRegion)
				hasNot(t, s, region, 0, 0, api.ErrRegion)
			}
			counts(t, s, 0, 0, 0)
		}
	}
	counts(t, maker, 3, 1, 0)
	opens(t, maker, 2)
}

// TestApartStores: stores know nothing of each other.
func TestApartStores(t *testing.T) {
	a, b := made(1), store.New()
	allocates(t, a, 0, 3, 0)
	sets(t, a, 0, 0, 2, 5)
	refuses(t, b, 0, 3, api.ErrRegion)
	opens(t, b, 0)
	hasNot(t, b, 0, 0, 2, api.ErrAddress)
	allocates(t, b, 0, 3, 0)
	has(t, b, 0, 0, 2, 0)
	closes(t, b, 0, api.OK)
	has(t, a, 0, 0, 2, 5)
	counts(t, a, 3, 1, 0)
	counts(t, b, 0, 0, 1)
}

// TestErrors: the errors, in their order, and nothing changes by them.
func TestErrors(t *testing.T) {
	s := made(3)
	allocates(t, s, 0, 3, 0)
	allocates(t, s, 1, 20, 16)
	allocates(t, s, 0, 4, 3)
	closes(t, s, 2, api.OK)
	for _, n := range append(odd, 2, 3) {
		closes(t, s, n, api.ErrRegion)
		refuses(t, s, n, 1, api.ErrRegion)
		refuses(t, s, n, n, api.ErrRegion)
		hasNot(t, s, n, 0, 0, api.ErrRegion)
		hasNot(t, s, n, n, n, api.ErrRegion)
	}
	for _, n := range odd {
		hasNot(t, s, 0, n, 0, api.ErrAddress)
		hasNot(t, s, 0, n, n, api.ErrAddress)
		hasNot(t, s, 0, 0, n, api.ErrField)
		hasNot(t, s, 0, 3, n, api.ErrField)
		hasNot(t, s, 1, 16, n, api.ErrField)
	}
	for _, n := range []int{0, -1, -16, math.MinInt, 4098, 1 << 16, math.MaxInt, math.MaxInt - 14} {
		refuses(t, s, 0, n, api.ErrSize)
	}
	hasNot(t, s, 0, 1, 0, api.ErrAddress)  // the second word of a cell
	hasNot(t, s, 0, 7, 0, api.ErrAddress)  // behind the filled words
	hasNot(t, s, 0, 16, 0, api.ErrAddress) // a cell of another region
	hasNot(t, s, 1, 0, 0, api.ErrAddress)
	hasNot(t, s, 1, 32, 0, api.ErrAddress) // the second page of a cell
	hasNot(t, s, 0, 0, 3, api.ErrField)    // the first field of the next cell
	hasNot(t, s, 1, 16, 20, api.ErrField)
	counts(t, s, 27, 3, 0)
	allocates(t, s, 0, 9, 7)
	opens(t, s, 3)
}

// TestSizes: the least and the greatest cells, and those at which it is told how a cell is laid.
func TestSizes(t *testing.T) {
	for _, c := range []struct{ words, pages int }{
		{1, 1}, {15, 1}, {16, 1}, {17, 2}, {32, 2}, {33, 3}, {48, 3}, {49, 4}, {4080, 255}, {4081, 256}, {4096, 256}, {4097, 257},
	} {
		s := made(2)
		allocates(t, s, 0, 1, 0)
		allocates(t, s, 1, c.words, 16)
		counts(t, s, 1+c.words, 1+c.pages, 0)
		for field := range c.words {
			has(t, s, 1, 16, field, 0)
			sets(t, s, 1, 16, field, int64(1+field))
		}
		hasNot(t, s, 1, 16, c.words, api.ErrField)
		next := 16 + 16*c.pages
		allocates(t, s, 0, 16, next)
		for field := range 16 {
			sets(t, s, 0, next, field, -1)
		}
		for field := range c.words {
			has(t, s, 1, 16, field, int64(1+field))
		}
		closes(t, s, 1, api.OK)
		counts(t, s, 17, 2, c.pages)
		opens(t, s, 2)
		allocates(t, s, 2, c.words, 16)
		for field := range c.words {
			has(t, s, 2, 16, field, 0)
		}
	}
}

// TestCurrentPage: what of a page is filled, and when a region takes the next one.
func TestCurrentPage(t *testing.T) {
	s := made(2)
	allocates(t, s, 0, 15, 0)
	allocates(t, s, 0, 2, 16)
	allocates(t, s, 0, 1, 18) // and not word 15, which stays unused
	allocates(t, s, 1, 1, 32)
	allocates(t, s, 0, 13, 19) // all that is left
	allocates(t, s, 0, 1, 48)
	allocates(t, s, 0, 4097, 64)
	allocates(t, s, 0, 15, 49)
	allocates(t, s, 1, 15, 33)
	counts(t, s, 15+2+1+1+13+1+4097+15+15, 4+257, 0)
	opens(t, s, 2)
	allocates(t, s, 2, 17, 64+16*257) // its first cell: it has no current page
	allocates(t, s, 2, 1, 64+16*259)
}

// taken is a store of some regions, each with a cell of one page.
func taken(t *testing.T, regions int) *store.Store {
	t.Helper()
	s := made(regions)
	for region := range regions {
		allocates(t, s, region, 9, 16*region)
	}
	return s
}

// TestLeastPage: the waiting page with the least number is taken, in whatever order pages were given back.
func TestLeastPage(t *testing.T) {
	s := taken(t, 8)
	for _, region := range []int{5, 2, 6, 1} {
		closes(t, s, region, api.OK)
	}
	opens(t, s, 8)
	for _, page := range []int{1, 2, 5, 6, 8, 9} {
		allocates(t, s, 8, 16, 16*page)
	}
	closes(t, s, 8, api.OK)
	counts(t, s, 36, 4, 6)
	opens(t, s, 9)
	allocates(t, s, 9, 12, 16)
}

// TestLeastStretch: pages that follow each other are taken where the first ones wait, whoever had them.
func TestLeastStretch(t *testing.T) {
	s := taken(t, 12)
	for _, region := range []int{9, 0, 7, 3, 8, 4} {
		closes(t, s, region, api.OK)
	}
	opens(t, s, 12)
	allocates(t, s, 12, 33, 16*7) // 7, 8 and 9; pages 0, 3 and 4 go on waiting
	allocates(t, s, 12, 17, 16*3)
	allocates(t, s, 12, 17, 16*12) // page 0 alone waits
	counts(t, s, 6*9+33+34, 13, 1)
	allocates(t, s, 12, 1, 0)
	counts(t, s, 6*9+33+35, 14, 0)
}

// TestLastPagesWait: pages that wait are not joined with fresh ones behind them.
func TestLastPagesWait(t *testing.T) {
	s := taken(t, 4)
	closes(t, s, 2, api.OK)
	closes(t, s, 3, api.OK)
	opens(t, s, 4)
	allocates(t, s, 4, 33, 16*4)
	counts(t, s, 9+9+33, 5, 2)
	allocates(t, s, 4, 32, 16*2)
}

// TestPartOfStretch: what is not needed of a stretch goes on waiting.
func TestPartOfStretch(t *testing.T) {
	s := made(2)
	allocates(t, s, 0, 160, 0)
	closes(t, s, 0, api.OK)
	allocates(t, s, 1, 1, 0)
	allocates(t, s, 1, 40, 16)
	allocates(t, s, 1, 96, 16*4)
	counts(t, s, 137, 10, 0)
	closes(t, s, 1, api.OK)
	opens(t, s, 2)
	allocates(t, s, 2, 160, 0)
}

// TestReused: a page that another region had has nothing of it.
func TestReused(t *testing.T) {
	s := made(1)
	allocates(t, s, 0, 16, 0)
	for field := range 16 {
		sets(t, s, 0, 0, field, math.MinInt64)
	}
	allocates(t, s, 0, 16, 16)
	sets(t, s, 0, 16, 15, math.MaxInt64)
	closes(t, s, 0, api.OK)
	closes(t, s, 0, api.ErrRegion)
	opens(t, s, 1)
	hasNot(t, s, 1, 0, 0, api.ErrAddress)
	allocates(t, s, 1, 5, 0)
	allocates(t, s, 1, 11, 5)
	allocates(t, s, 1, 16, 16)
	for field := range 5 {
		has(t, s, 1, 0, field, 0)
	}
	for field := range 11 {
		has(t, s, 1, 5, field, 0)
	}
	for field := range 16 {
		has(t, s, 1, 16, field, 0)
	}
	hasNot(t, s, 0, 0, 0, api.ErrRegion)
	refuses(t, s, 0, 1, api.ErrRegion)
	counts(t, s, 32, 2, 0)
}
