package store_test

import (
	"testing"

	"heriot/api"
	"heriot/store"
)

// TestManyRegions: a store whose regions come and go has no more pages than are needed at once.
func TestManyRegions(t *testing.T) {
	t.Parallel()
	s := store.New()
	for number := range 300_000 {
		opens(t, s, number)
		allocates(t, s, number, 16, 16*(number%2))
		if number%2 == 1 {
			closes(t, s, number-1, api.OK)
			closes(t, s, number, api.OK)
		}
		if t.Failed() {
			t.FailNow()
		}
	}
	counts(t, s, 0, 0, 2)
}

// TestManyHoles: where very many pages wait, but few in a row, it takes no look at all of them to find some, or to see that there are none.
func TestManyHoles(t *testing.T) {
	t.Parallel()
	const pages = 1 << 18
	s := taken(t, pages)
	for region := 0; region < pages; region += 2 {
		closes(t, s, region, api.OK)
	}
	counts(t, s, pages/2*9, pages/2, pages/2)
	for k := range pages / 2 {
		region := s.Open()
		allocates(t, s, region, 17, 16*(pages+2*(k%2)))
		if k%2 == 1 {
			closes(t, s, region-1, api.OK)
			closes(t, s, region, api.OK)
		}
		if t.Failed() {
			t.FailNow()
		}
	}
	region := s.Open()
	for page := 0; page < pages; page += 2 {
		allocates(t, s, region, 16, 16*page)
	}
	counts(t, s, pages/2*25, pages, 4)
	for region := 1; region < pages; region += 2 {
		closes(t, s, region, api.OK)
	}
	closes(t, s, region, api.OK)
	counts(t, s, 0, 0, pages+4)
	allocates(t, s, s.Open(), api.MaxArray+1, 0)
}

// TestManyCells: a region with very many cells, each of which is where it was.
func TestManyCells(t *testing.T) {
	t.Parallel()
	s := made(2)
	const cells = 200_000
	for cell := range cells {
		allocates(t, s, cell%2, 4, 16*(cell/8*2+cell%2)+cell%8/2*4)
		if t.Failed() {
			t.FailNow()
		}
	}
	counts(t, s, 4*cells, cells/4, 0)
	for cell := range cells {
		sets(t, s, cell%2, 16*(cell/8*2+cell%2)+cell%8/2*4, cell%4, int64(cell))
	}
	for cell := range cells {
		has(t, s, cell%2, 16*(cell/8*2+cell%2)+cell%8/2*4, cell%4, int64(cell))
	}
}
