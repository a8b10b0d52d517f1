package place

import (
	"heriot/api"
	"heriot/outline"
)

// merge says that two regions, or two effects, of a function's signature are the same, by their names.
type merge struct {
	of       *function
	isEffect bool
	a, b     int
}

func (f *function) sameRegion(a, b int) {
	a, b, isNew := f.regions.unite(a, b)
	if isNew && b < f.own.regions {
		f.merges = append(f.merges, merge{f, false, a, b})
	}
}

func (f *function) sameEffect(a, b int) {
	a, b, isNew := f.effects.unite(a, b)
	if isNew && b < f.own.effects {
		f.merges = append(f.merges, merge{f, true, a, b})
	}
}

// spread makes the same in the group's calls what is the same in a signature, until nothing is new. So the first pass ends where its rounds end: what is the same only grows, whichever way one goes.
func (g *group) spread() {
	for len(g.merges) > 0 {
		m := g.merges.Pop()
		for _, c := range m.of.callers {
			if m.isEffect {
				c.by.sameEffect(c.in.effects[m.a], c.in.effects[m.b])
			} else {
				c.by.sameRegion(c.in.regions[m.a], c.in.regions[m.b])
			}
		}
	}
}

// same asks two types that are equal but for names.
func (f *function) same(t, u *dressed) {
	if t == u {
		return
	}
	if outline.HasRegion(t.kind) {
		f.sameRegion(t.region, u.region)
	}
	if outline.HasEffect(t.kind) {
		f.sameEffect(t.effect, u.effect)
	}
	for i := range t.parts {
		f.same(t.parts[i], u.parts[i])
	}
}

// fits asks a type and what a pattern is at an instance, which is not written out.
func (f *function) fits(t, of *dressed, in *instance) {
	if of.kind == api.TVar {
		f.same(t, in.types[of.n])
		return
	}
	if outline.HasRegion(of.kind) {
		f.sameRegion(t.region, in.regions[of.region])
	}
	if outline.HasEffect(of.kind) {
		f.sameEffect(t.effect, in.effects[of.effect])
	}
	for i := range t.parts {
		f.fits(t.parts[i], of.parts[i], in)
	}
}

// allFit asks the types of a step's arguments and patterns.
func (f *function) allFit(s *step, of []*dressed, in *instance) {
	for i := range s.Args {
		f.fits(f.arg(s, i), of[i], in)
	}
}

// ask asks what a step asks.
func (f *function) ask(s *step) {
	switch s.Op {
	case api.OMake:
		f.allFit(s, f.fields[s.Type.N][s.Code], at(s.typ))
	case api.OTuple:
		for i, part := range s.typ.parts {
			f.same(f.arg(s, i), part)
		}
	case api.OGet:
		f.same(s.typ, f.arg(s, 0).parts[s.Int])
	case api.OCall:
		params, result := s.call.types()
		f.allFit(s, params, &s.call.in)
		f.fits(s.typ, result, &s.call.in)
	case api.OFn:
		f.same(f.value(s.blocks[0]), s.typ.parts[1])
	case api.OApply:
		f.same(f.arg(s, 0).parts[0], f.arg(s, 1))
		f.same(f.arg(s, 0).parts[1], s.typ)
	case api.ORef:
		f.same(s.typ.parts[0], f.arg(s, 0))
	case api.ODeref, api.OAt:
		f.same(f.arg(s, 0).parts[0], s.typ)
	case api.OSet:
		f.same(f.arg(s, 0).parts[0], f.arg(s, 1))
	case api.OArray:
		f.same(s.typ.parts[0], f.arg(s, 1))
	case api.OPut:
		f.same(f.arg(s, 0).parts[0], f.arg(s, 2))
	case api.OIf, api.OCase:
		f.join(s, s.blocks)
	case api.OHandle:
		f.join(s, s.blocks[1:])
	}
}

// join asks the types of what blocks give and the type of their step.
func (f *function) join(s *step, blocks []*block) {
	for _, b := range blocks {
		f.same(f.value(b), s.typ)
	}
}
