package steps

import (
	"heriot/api"
	"heriot/outline"
)

// scoped asks what a step names to be in scope, and what it binds to be new; and gives the types of its arguments.
func (b *body) scoped(s *api.Step) []*api.Type {
	var args []*api.Type
	for _, a := range s.Args {
		args = append(args, b.typeOf(a))
	}
	b.require(b.isInScope(s), api.ErrScope)
	switch s.Op {
	case api.ONew:
		b.require(s.Region >= b.fun.Regions && !b.begun[s.Region], api.ErrScope)
		b.begun[s.Region] = true
	case api.OEnd:
		b.require(b.isRegion(s.Region), api.ErrScope)
	default:
		b.bind([]int{s.Out})
	}
	for i := range s.Blocks {
		b.bind(s.Blocks[i].Bind)
	}
	return args
}

// isInScope tells whether the types, the effects and the regions that a step names are in scope.
func (b *body) isInScope(s *api.Step) bool {
	if !b.isTypeHere(&s.Type) || !b.areRegions(s.Regions) || !b.areRegions(s.Keep) {
		return false
	}
	for i := range s.Types {
		if !b.isTypeHere(&s.Types[i]) {
			return false
		}
	}
	for i := range s.Effects {
		if !b.isEffectHere(&s.Effects[i]) {
			return false
		}
	}
	return true
}

func (b *body) isTypeHere(t *api.Type) bool {
	if t.Kind == api.TVar && t.N >= b.fun.Types || outline.HasRegion(t.Kind) && !b.isRegion(t.Region) || !b.isEffectHere(&t.Effect) {
		return false
	}
	for i := range t.Args {
		if !b.isTypeHere(&t.Args[i]) {
			return false
		}
	}
	return true
}

func (b *body) isEffectHere(e *api.Effect) bool {
	// The numbers rise.
	return b.areRegions(e.Regions) && (len(e.Vars) == 0 || e.Vars[len(e.Vars)-1] < b.fun.Effects)
}

func (b *body) areRegions(list []int) bool {
	for _, r := range list {
		if !b.isRegion(r) {
			return false
		}
	}
	return true
}

// isRegion tells whether a region is in scope.
func (b *body) isRegion(region int) bool {
	_, ok := b.locals[region]
	return ok || region < b.fun.Regions
}
