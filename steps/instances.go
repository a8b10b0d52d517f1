package steps

import (
	"slices"

	"heriot/api"
)

// instance says what the type variables, the regions and the effect variables of a data type, or of a function, stand for.
type instance struct {
	types   []api.Type
	regions []int
	effects []api.Effect
}

// at is what a field's type is at: the data type's own region is 0, and its own effect variable is 0.
func at(t *api.Type) instance {
	return instance{t.Args, []int{t.Region}, []api.Effect{t.Effect}}
}

func areSame(a, b *api.Type) bool {
	if a.Kind != b.Kind || a.N != b.N || a.Region != b.Region || !isSameEffect(&a.Effect, &b.Effect) || len(a.Args) != len(b.Args) {
		return false
	}
	for i := range a.Args {
		if !areSame(&a.Args[i], &b.Args[i]) {
			return false
		}
	}
	return true
}

func isSameEffect(a, b *api.Effect) bool {
	return slices.Equal(a.Regions, b.Regions) && slices.Equal(a.Vars, b.Vars)
}

// fits tells whether a type is the instance of another one, which is not written out: it may be much larger.
func (in instance) fits(t, of *api.Type) bool {
	if of.Kind == api.TVar {
		return areSame(t, &in.types[of.N])
	}
	if t.Kind != of.Kind || t.N != of.N || len(t.Args) != len(of.Args) {
		return false
	}
	if hasRegion(of.Kind) && t.Region != in.regions[of.Region] {
		return false
	}
	if hasEffect(of.Kind) {
		effect := in.effect(&of.Effect)
		if !isSameEffect(&t.Effect, &effect) {
			return false
		}
	}
	for i := range t.Args {
		if !in.fits(&t.Args[i], &of.Args[i]) {
			return false
		}
	}
	return true
}

// allFit tells whether types are the instances of others, one each.
func (in instance) allFit(types []*api.Type, of []api.Type) bool {
	for i, t := range types {
		if !in.fits(t, &of[i]) {
			return false
		}
	}
	return true
}

// effect is the instance of an effect.
func (in instance) effect(of *api.Effect) api.Effect {
	if len(of.Regions) == 0 && len(of.Vars) == 1 {
		return in.effects[of.Vars[0]]
	}
	var out api.Effect
	for _, r := range of.Regions {
		out.Regions = append(out.Regions, in.regions[r])
	}
	for _, v := range of.Vars {
		out.Regions = append(out.Regions, in.effects[v].Regions...)
		out.Vars = append(out.Vars, in.effects[v].Vars...)
	}
	return api.Effect{Regions: setOf(out.Regions), Vars: setOf(out.Vars)}
}

// setOf makes a list a set: its numbers rise.
func setOf(list []int) []int {
	slices.Sort(list)
	return slices.Compact(list)
}

// written writes the instance of a type out.
func (in instance) written(of *api.Type) api.Type {
	if of.Kind == api.TVar {
		return in.types[of.N]
	}
	out := api.Type{Kind: of.Kind, N: of.N}
	if hasRegion(of.Kind) {
		out.Region = in.regions[of.Region]
	}
	if hasEffect(of.Kind) {
		out.Effect = in.effect(&of.Effect)
	}
	for i := range of.Args {
		out.Args = append(out.Args, in.written(&of.Args[i]))
	}
	return out
}
