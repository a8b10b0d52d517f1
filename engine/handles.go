package engine

import (
	"cmp"
	"slices"
)

// handle says the instance of a region, and whether it owns that.
type handle struct {
	instance int
	owns     bool
}

// handles are what a frame, or a closure, has to make cells with: by the names of regions.
type handles map[int]handle

// named is a handle with the name of its region.
type named struct {
	region int
	handle
}

// give adds a handle.
func (h *handles) give(region int, to handle) {
	if *h == nil {
		*h = handles{}
	}
	(*h)[region] = to
}

// drop takes a handle away.
func (h handles) drop(region int) { delete(h, region) }

// owned are the handles that own, by the numbers of their instances, rising.
func (h handles) owned() []named {
	var out []named
	for region, one := range h {
		if one.owns {
			out = append(out, named{region, one})
		}
	}
	slices.SortFunc(out, func(a, b named) int {
		return cmp.Or(cmp.Compare(a.instance, b.instance), cmp.Compare(a.region, b.region))
	})
	return out
}

// captured are handles of some regions, as far as there are any; they own nothing.
func (h handles) captured(regions []int) handles {
	var out handles
	for _, region := range regions {
		if of, ok := h[region]; ok {
			out.give(region, handle{instance: of.instance})
		}
	}
	return out
}
