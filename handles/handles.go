// Package handles has what a frame of a run needs to make cells in regions. The runs of region programs and those of images share it.
package handles

import (
	"cmp"
	"slices"
)

// Handle says the instance of a region, and whether it owns that.
type Handle struct {
	Instance int
	Owns     bool
}

// Named is a handle with the name of its region.
type Named struct {
	Region int
	Handle
}

// Set are the handles that a frame, or a closure, has: by the names of regions.
type Set map[int]Handle

// Give adds a handle.
func (s *Set) Give(region int, to Handle) {
	if *s == nil {
		*s = Set{}
	}
	(*s)[region] = to
}

// Drop takes a handle away.
func (s Set) Drop(region int) { delete(s, region) }

// Owned are the handles that own, by the numbers of their instances, rising.
func (s Set) Owned() []Named {
	var out []Named
	for region, one := range s {
		if one.Owns {
			out = append(out, Named{region, one})
		}
	}
	slices.SortFunc(out, func(a, b Named) int {
		return cmp.Or(cmp.Compare(a.Instance, b.Instance), cmp.Compare(a.Region, b.Region))
	})
	return out
}

// Captured are handles of some regions, as far as there are any; they own nothing.
func (s Set) Captured(regions []int) Set {
	var out Set
	for _, region := range regions {
		if of, ok := s[region]; ok {
			out.Give(region, Handle{Instance: of.Instance})
		}
	}
	return out
}

// Leave takes the handles away by which a frame that an exception leaves owns, but for those of some regions, which rise; end is told their instances, the greatest number first.
func (s Set) Leave(keep []int, end func(instance int)) {
	for _, h := range slices.Backward(s.Owned()) {
		if _, kept := slices.BinarySearch(keep, h.Region); !kept {
			s.Drop(h.Region)
			end(h.Instance)
		}
	}
}
