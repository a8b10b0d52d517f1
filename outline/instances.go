package outline

import (
	"slices"

	"heriot/api"
)

// HasRegion tells whether types of a kind lie in a region.
func HasRegion(kind int) bool { return kind >= api.TData }

// HasEffect tells whether types of a kind have an effect.
func HasEffect(kind int) bool { return kind == api.TData || kind == api.TArrow }

// Instance says what the type variables, the regions and the effect variables of a data type, or of a function, stand for.
type Instance struct {
	Types   []api.Type
	Regions []int
	Effects []api.Effect
}

// At is what a field's type is at: the data type's own region is 0, and its own effect variable is 0.
func At(t *api.Type) Instance {
	return Instance{t.Args, []int{t.Region}, []api.Effect{t.Effect}}
}

// Of is what the types of a callee are at.
func Of(call *api.Step) Instance { return Instance{call.Types, call.Regions, call.Effects} }

// AreSame tells whether two types are the same, their regions and effects too.
func AreSame(a, b *api.Type) bool {
	if a.Kind != b.Kind || a.N != b.N || a.Region != b.Region || !isSameEffect(&a.Effect, &b.Effect) || len(a.Args) != len(b.Args) {
		return false
	}
	for i := range a.Args {
		if !AreSame(&a.Args[i], &b.Args[i]) {
			return false
		}
	}
	return true
}

func isSameEffect(a, b *api.Effect) bool {
	return slices.Equal(a.Regions, b.Regions) && slices.Equal(a.Vars, b.Vars)
}

// Fits tells whether a type is the instance of another one, which is not written out: it may be much larger.
func (in Instance) Fits(t, of *api.Type) bool {
	if of.Kind == api.TVar {
		return AreSame(t, &in.Types[of.N])
	}
	if t.Kind != of.Kind || t.N != of.N || len(t.Args) != len(of.Args) {
		return false
	}
	if HasRegion(of.Kind) && t.Region != in.Regions[of.Region] {
		return false
	}
	if HasEffect(of.Kind) {
		effect := in.Effect(&of.Effect)
		if !isSameEffect(&t.Effect, &effect) {
			return false
		}
	}
	for i := range t.Args {
		if !in.Fits(&t.Args[i], &of.Args[i]) {
			return false
		}
	}
	return true
}

// AllFit tells whether types are the instances of others, one each.
func (in Instance) AllFit(types []*api.Type, of []api.Type) bool {
	for i, t := range types {
		if !in.Fits(t, &of[i]) {
			return false
		}
	}
	return true
}

// Effect is the instance of an effect.
func (in Instance) Effect(of *api.Effect) api.Effect {
	if len(of.Regions) == 0 && len(of.Vars) == 1 {
		return in.Effects[of.Vars[0]]
	}
	var out api.Effect
	for _, r := range of.Regions {
		out.Regions = append(out.Regions, in.Regions[r])
	}
	for _, v := range of.Vars {
		out.Regions = append(out.Regions, in.Effects[v].Regions...)
		out.Vars = append(out.Vars, in.Effects[v].Vars...)
	}
	return api.Effect{Regions: setOf(out.Regions), Vars: setOf(out.Vars)}
}

// setOf makes a list a set: its numbers rise.
func setOf(list []int) []int {
	slices.Sort(list)
	return slices.Compact(list)
}

// Written writes the instance of a type out.
func (in Instance) Written(of *api.Type) api.Type {
	if of.Kind == api.TVar {
		return in.Types[of.N]
	}
	out := api.Type{Kind: of.Kind, N: of.N}
	if HasRegion(of.Kind) {
		out.Region = in.Regions[of.Region]
	}
	if HasEffect(of.Kind) {
		out.Effect = in.Effect(&of.Effect)
	}
	for i := range of.Args {
		out.Args = append(out.Args, in.Written(&of.Args[i]))
	}
	return out
}
