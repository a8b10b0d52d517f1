package place

import (
	"heriot/api"
	"heriot/outline"
)

// names are the region names, or the effect names, of a function. Of those that are the same the least one is the root, to which the others lead.
type names []int

// fresh makes some new names.
func (n *names) fresh(count int) []int {
	var out []int
	for range count {
		out = append(out, len(*n))
		*n = append(*n, len(*n))
	}
	return out
}

func (n names) root(name int) int {
	for n[name] != name {
		n[name] = n[n[name]]
		name = n[name]
	}
	return name
}

// unite makes two names the same. It gives what were their roots, the least one first, and tells whether they were two.
func (n names) unite(a, b int) (least, other int, isNew bool) {
	a, b = n.root(a), n.root(b)
	least, other = min(a, b), max(a, b)
	n[other] = least
	return least, other, least != other
}

// dressed is a type whose places have names. Where it is a pattern it has numbers of what stands there instead: of a signature's regions and effects, or 0 in a field of a data type.
type dressed struct {
	kind, n        int
	region, effect int
	parts          []*dressed
}

// pattern is a type of which regions and effects are numbered by a rule.
func pattern(t *api.Type, region, effect func(*api.Type) int) *dressed {
	d := &dressed{kind: t.Kind, n: t.N}
	if outline.HasRegion(t.Kind) {
		d.region = region(t)
	}
	if outline.HasEffect(t.Kind) {
		d.effect = effect(t)
	}
	for i := range t.Args {
		d.parts = append(d.parts, pattern(&t.Args[i], region, effect))
	}
	return d
}

// field is the pattern of a constructor's field: all is in the region 0, and has the effect 0.
func field(t *api.Type) *dressed {
	zero := func(*api.Type) int { return 0 }
	return pattern(t, zero, zero)
}

// dress gives new names to the places of a type.
func (f *function) dress(t *api.Type) *dressed {
	return pattern(t, func(*api.Type) int { return f.regions.fresh(1)[0] }, func(*api.Type) int { return f.effects.fresh(1)[0] })
}

// instance says what stands for the type variables, the regions and the effects of a pattern.
type instance struct {
	types   []*dressed
	regions []int
	effects []int
}

// at is what fields are at, where a value of a data type is dressed.
func at(t *dressed) *instance {
	return &instance{t.parts, []int{t.region}, []int{t.effect}}
}

// written is a pattern with what stands for it.
func (in *instance) written(of *dressed) *dressed {
	if of.kind == api.TVar {
		return in.types[of.n]
	}
	d := &dressed{kind: of.kind, n: of.n}
	if outline.HasRegion(of.kind) {
		d.region = in.regions[of.region]
	}
	if outline.HasEffect(of.kind) {
		d.effect = in.effects[of.effect]
	}
	for _, part := range of.parts {
		d.parts = append(d.parts, in.written(part))
	}
	return d
}
