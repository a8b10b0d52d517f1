package store_test

import (
	"slices"

	"heriot/api"
)

// waits is the owner of a page that waits.
const waits = -1

// judge is a second store: it looks at all pages, regions and cells whenever it is asked something.
type judge struct {
	owners  []int // of each page that is not fresh, a region's number or waits
	regions []judged
}

type judged struct {
	open    bool
	current int // the number of the current page; below 0 where there is none
	filled  int
	cells   []judgedCell
}

type judgedCell struct {
	address int
	fields  []int64
}

func (j *judge) Open() int {
	j.regions = append(j.regions, judged{open: true, current: -1})
	return len(j.regions) - 1
}

func (j *judge) isOpen(region int) bool {
	return region >= 0 && region < len(j.regions) && j.regions[region].open
}

func (j *judge) Close(region int) api.Errno {
	if !j.isOpen(region) {
		return api.ErrRegion
	}
	j.regions[region] = judged{}
	for p, owner := range j.owners {
		if owner == region {
			j.owners[p] = waits
		}
	}
	return api.OK
}

func (j *judge) Alloc(region, words int) (int, api.Errno) {
	if !j.isOpen(region) {
		return 0, api.ErrRegion
	}
	if words < 1 || words > 4097 {
		return 0, api.ErrSize
	}
	r := &j.regions[region]
	address := 0
	switch {
	case words > 16:
		address = 16 * j.take(region, (words+15)/16)
	case r.current >= 0 && 16-r.filled >= words:
		address = 16*r.current + r.filled
		r.filled += words
	default:
		r.current = j.take(region, 1)
		r.filled = words
		address = 16 * r.current
	}
	r.cells = append(r.cells, judgedCell{address, make([]int64, words)})
	return address, api.OK
}

// take looks at one number of a page after another.
func (j *judge) take(region, count int) int {
	for first := range j.owners {
		if first+count <= len(j.owners) && !slices.ContainsFunc(j.owners[first:first+count], func(owner int) bool { return owner != waits }) {
			for p := range count {
				j.owners[first+p] = region
			}
			return first
		}
	}
	for range count {
		j.owners = append(j.owners, region)
	}
	return len(j.owners) - count
}

// field gives a field, where it stands.
func (j *judge) field(region, address, field int) (*int64, api.Errno) {
	if !j.isOpen(region) {
		return nil, api.ErrRegion
	}
	for _, c := range j.regions[region].cells {
		if c.address != address {
			continue
		}
		if field < 0 || field >= len(c.fields) {
			return nil, api.ErrField
		}
		return &c.fields[field], api.OK
	}
	return nil, api.ErrAddress
}

func (j *judge) Get(region, address, field int) (int64, api.Errno) {
	f, e := j.field(region, address, field)
	if e != api.OK {
		return 0, e
	}
	return *f, e
}

func (j *judge) Set(region, address, field int, value int64) api.Errno {
	f, e := j.field(region, address, field)
	if e == api.OK {
		*f = value
	}
	return e
}

func (j *judge) Words() int {
	sum := 0
	for region := range j.regions {
		sum += j.wordsOf(region)
	}
	return sum
}

// wordsOf is how many words the cells of a region have.
func (j *judge) wordsOf(region int) int {
	sum := 0
	for _, c := range j.regions[region].cells {
		sum += len(c.fields)
	}
	return sum
}

// pagesOf is how many pages a region has, or how many wait.
func (j *judge) pagesOf(region int) int {
	count := 0
	for _, owner := range j.owners {
		if owner == region {
			count++
		}
	}
	return count
}

func (j *judge) Pages() int { return len(j.owners) - j.Free() }

func (j *judge) Free() int { return j.pagesOf(waits) }
