package steps

import (
	"heriot/api"
	"heriot/outline"
)

// unbound says that a type variable may have any number: it is looked at where its scope is.
const unbound = -1

// bounds are what the numbers in a type, or in an effect, have to be below; and the data types that there are.
type bounds struct {
	vars    int
	regions int
	effects int
	datas   []api.Data
}

// shaped looks at the shape of a program: what can be said of each part without what is in scope, and without comparing types.
type shaped struct{ *api.Program }

func checkShape(p *api.Program) {
	require(!outline.IsBig(p), api.ErrBig)
	s := shaped{p}
	require(s.areDatas() && outline.HasOwnExns(p.Exns) && s.areFuns() && s.isMain(), api.ErrShape)
	for i := range p.Funs {
		require(s.isBody(&p.Funs[i].Body), api.ErrShape)
	}
}

func (p shaped) areDatas() bool {
	for i, d := range p.Datas {
		if len(d.Cons) == 0 {
			return false
		}
		in := bounds{len(d.Vars), 1, 1, p.Datas[:i+1]}
		for _, c := range d.Cons {
			for j := range c.Fields {
				if !in.isType(&c.Fields[j]) || !isField(&c.Fields[j]) {
					return false
				}
			}
		}
	}
	return true
}

// isField tells whether all effects in a type are those of a field: the data type's own.
func isField(t *api.Type) bool {
	if outline.HasEffect(t.Kind) && (len(t.Effect.Regions) > 0 || len(t.Effect.Vars) != 1) {
		return false
	}
	for i := range t.Args {
		if !isField(&t.Args[i]) {
			return false
		}
	}
	return true
}

func (p shaped) areFuns() bool {
	for i := range p.Funs {
		f := &p.Funs[i]
		if !isUpTo(f.Types) || !isUpTo(f.Regions) || !isUpTo(f.Effects) {
			return false
		}
		in := bounds{f.Types, f.Regions, f.Effects, p.Datas}
		if !in.isEffect(&f.Touch) || !in.areTypes(f.Params) || !in.isType(&f.Result) {
			return false
		}
	}
	return true
}

// isUpTo tells whether a number is one of how many there may be.
func isUpTo(count int) bool { return count >= 0 && count <= api.MaxNodes }

func (p shaped) isMain() bool {
	if !outline.IsBelow(p.Main, len(p.Funs)) {
		return false
	}
	f := &p.Funs[p.Main]
	for _, t := range f.Params {
		if t.Kind != api.TInt {
			return false
		}
	}
	return f.Types == 0 && f.Regions == 0 && f.Effects == 0 && len(f.Params) <= api.MaxArgs && f.Result.Kind == api.TInt
}

func (in bounds) isType(t *api.Type) bool {
	if !outline.HasParts(t, in.datas) || t.Kind == api.TVar && in.vars != unbound && t.N >= in.vars {
		return false
	}
	if !outline.HasRegion(t.Kind) && t.Region != 0 || !outline.IsBelow(t.Region, in.regions) && outline.HasRegion(t.Kind) {
		return false
	}
	if !outline.HasEffect(t.Kind) && len(t.Effect.Regions)+len(t.Effect.Vars) > 0 || !in.isEffect(&t.Effect) {
		return false
	}
	return in.areTypes(t.Args)
}

func (in bounds) areTypes(list []api.Type) bool {
	for i := range list {
		if !in.isType(&list[i]) {
			return false
		}
	}
	return true
}

func areBelow(list []int, bound int) bool {
	for _, n := range list {
		if !outline.IsBelow(n, bound) {
			return false
		}
	}
	return true
}

func (in bounds) isEffect(e *api.Effect) bool {
	return outline.IsRising(e.Regions, in.regions) && outline.IsRising(e.Vars, in.effects)
}

// isBody tells whether a function's block is shaped: it binds nothing, and is no handle's arm.
func (p shaped) isBody(b *api.Block) bool {
	return len(b.Bind) == 0 && b.Code == 0 && p.isBlock(b)
}

// isBlock tells whether a block is shaped, but for its Code and how many variables it binds.
func (p shaped) isBlock(b *api.Block) bool {
	if !areBelow(b.Bind, api.MaxNodes) || !outline.IsBelow(b.Value, api.MaxNodes) {
		return false
	}
	for i := range b.Steps {
		if !p.isStep(&b.Steps[i]) {
			return false
		}
	}
	return true
}

// inSteps are the bounds of what stands in steps.
func (p shaped) inSteps() bounds { return bounds{unbound, api.MaxNodes, api.MaxNodes, p.Datas} }

// isStep tells whether a step, and what stands in it, is shaped.
func (p shaped) isStep(s *api.Step) bool {
	if !outline.IsShaped(s) || !areBelow(s.Args, api.MaxNodes) || !p.inSteps().isType(&s.Type) {
		return false
	}
	if !isOut(s) || !p.isRight(s) || !outline.IsBelow(s.Region, api.MaxNodes) {
		return false
	}
	for i := range s.Blocks {
		if (s.Blocks[i].Code != 0 && !isArm(s, i)) || !p.isBlock(&s.Blocks[i]) {
			return false
		}
	}
	return true
}

// isArm tells whether a block of a step is a handle's arm for an exception.
func isArm(s *api.Step, block int) bool { return s.Op == api.OHandle && block >= 2 }

// isOut tells whether a step has a variable, unless it is one of those that have none.
func isOut(s *api.Step) bool {
	if s.Op == api.ONew || s.Op == api.OEnd {
		return s.Out == -1 && s.Type.Kind == api.TInt
	}
	return outline.IsBelow(s.Out, api.MaxNodes)
}
