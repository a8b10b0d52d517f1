package outline

import (
	"slices"

	"heriot/api"
)

// Needs tells whether a step makes a cell in its Region.
func Needs(s *api.Step) bool {
	switch s.Op {
	case api.OMake:
		return len(s.Args) > 0
	case api.OTuple, api.OFn, api.ORef, api.OArray:
		return true
	}
	return false
}

// finder finds of which regions the closures that a function makes capture handles.
type finder struct {
	*api.Program
	formals int
	found   map[*api.Step][]int
}

// Handles are, for each OFn in a function, the regions, rising, of which its closure captures handles: those in which its block, at all depths, makes cells, and those that it hands to callees, if they do not begin there.
func Handles(p *api.Program, f *api.Fun) map[*api.Step][]int {
	h := finder{p, f.Regions, map[*api.Step][]int{}}
	h.block(&f.Body, map[int]bool{}, map[int]bool{})
	return h.found
}

// block adds the regions that a block names, but for those that begin in a lambda that names them, and those that begin in it.
func (h finder) block(b *api.Block, named, begun map[int]bool) {
	for i := range b.Steps {
		s := &b.Steps[i]
		h.step(s, named, begun)
		if s.Op == api.OFn {
			h.lambda(s, named, begun)
			continue
		}
		for j := range s.Blocks {
			h.block(&s.Blocks[j], named, begun)
		}
	}
}

func (h finder) step(s *api.Step, named, begun map[int]bool) {
	switch {
	case Needs(s):
		named[s.Region] = true
	case s.Op == api.OCall:
		for _, formal := range h.Funs[s.Code].Touch.Regions {
			named[s.Regions[formal]] = true
		}
	case s.Op == api.ONew && s.Region >= h.formals:
		begun[s.Region] = true
	}
}

func (h finder) lambda(s *api.Step, named, begun map[int]bool) {
	own, inside := map[int]bool{}, map[int]bool{}
	h.block(&s.Blocks[0], own, inside)
	for r := range inside {
		delete(own, r)
		begun[r] = true
	}
	for r := range own {
		named[r] = true
	}
	h.found[s] = Sorted(own)
}

// Sorted are the numbers of a set, rising.
func Sorted(set map[int]bool) []int {
	var out []int
	for n := range set {
		out = append(out, n)
	}
	slices.Sort(out)
	return out
}
