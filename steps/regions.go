package steps

import (
	"maps"
	"slices"

	"heriot/api"
	"heriot/outline"
	"heriot/stack"
)

// owner is the function, or the lambda, in whose block one is.
type owner struct {
	isLambda bool
	may      *api.Effect     // what it may touch
	owned    map[int]bool    // the regions that are its own
	live     map[int]bool    // those that it has begun and has not consumed
	keeps    stack.Of[[]int] // what the handles keep in whose first blocks one is
}

// ownerOf is a function at its begin.
func ownerOf(f *api.Fun) *owner {
	o := &owner{may: &f.Touch, owned: map[int]bool{}, live: map[int]bool{}}
	for _, r := range f.Touch.Regions {
		o.owned[r] = true
	}
	o.live = maps.Clone(o.owned)
	o.own(&f.Body, f.Regions)
	return o
}

// lambdaOf is a lambda at its begin.
func lambdaOf(s *api.Step, formals int) *owner {
	o := &owner{isLambda: true, may: &s.Type.Effect, owned: map[int]bool{}, live: map[int]bool{}}
	o.own(&s.Blocks[0], formals)
	return o
}

// own adds the locals that begin in a block, and in no lambda inside it.
func (o *owner) own(b *api.Block, formals int) {
	for i := range b.Steps {
		s := &b.Steps[i]
		if s.Op == api.ONew && s.Region >= formals {
			o.owned[s.Region] = true
		}
		for j := range s.Blocks {
			if s.Op != api.OFn {
				o.own(&s.Blocks[j], formals)
			}
		}
	}
}

// touched is what a step touches.
func (b *body) touched(s *api.Step, args []*api.Type) api.Effect {
	var of *api.Type
	if len(args) > 0 {
		of = args[0]
	}
	return outline.Touched(b.Program, s, of, b.handles[s])
}

// checkRegions looks at what a step touches and consumes, and consumes that.
func (b *body) checkRegions(s *api.Step, args []*api.Type) {
	o := b.here
	touched := b.touched(s, args)
	b.require(o.mayTouch(&touched, b.fun.Regions), api.ErrEffect)
	if s.Op == api.OEnd && !o.isLambda && s.Region < b.fun.Regions {
		b.require(o.owned[s.Region], api.ErrEffect)
	}
	for _, r := range touched.Regions {
		b.require(o.live[r] || o.isLambda && !o.owned[r], api.ErrLive)
	}
	if s.Op == api.OEnd {
		b.require(o.live[s.Region] || !o.owned[s.Region], api.ErrLive)
		b.require(o.owned[s.Region], api.ErrMode)
	}
	consumed := b.consumed(s)
	b.require(o.isHandedOver(s, consumed), api.ErrMode)
	for _, r := range s.Keep {
		b.require(o.live[r], api.ErrKeep)
	}
	for _, r := range consumed {
		b.require(!o.isKept(r), api.ErrKeep)
		delete(o.live, r)
	}
}

// mayTouch tells whether a touch is one that the function, or the lambda, is said to do: of formals, or of what it does not own.
func (o *owner) mayTouch(e *api.Effect, formals int) bool {
	for _, r := range e.Regions {
		if own := !o.isLambda && r >= formals || o.isLambda && o.owned[r]; !own && !contains(o.may.Regions, r) {
			return false
		}
	}
	for _, v := range e.Vars {
		if !contains(o.may.Vars, v) {
			return false
		}
	}
	return true
}

// contains tells whether a number is in a list of rising ones.
func contains(list []int, n int) bool {
	_, ok := slices.BinarySearch(list, n)
	return ok
}

// consumed are the regions that a step consumes.
func (b *body) consumed(s *api.Step) []int {
	switch s.Op {
	case api.OEnd:
		return []int{s.Region}
	case api.OCall:
		var out []int
		for i, formal := range b.Funs[s.Code].Touch.Regions {
			if s.Modes[i] == api.Last {
				out = append(out, s.Regions[formal])
			}
		}
		return out
	}
	return nil
}

// isHandedOver tells whether the regions that a call hands over are owned here, and each is the actual of no other formal and in none of the effects.
func (o *owner) isHandedOver(s *api.Step, last []int) bool {
	if s.Op != api.OCall || len(last) == 0 {
		return true
	}
	named := map[int]int{}
	for _, r := range s.Regions {
		named[r]++
	}
	for _, e := range s.Effects {
		for _, r := range e.Regions {
			named[r]++
		}
	}
	for _, r := range last {
		if !o.owned[r] || named[r] != 1 {
			return false
		}
	}
	return true
}

// isKept tells whether a handle in whose first block one is keeps a region.
func (o *owner) isKept(region int) bool {
	return slices.ContainsFunc(o.keeps, func(keep []int) bool { return contains(keep, region) })
}
