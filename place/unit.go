package place

import (
	"heriot/api"
	"heriot/flat"
	"heriot/outline"
)

// PlaceUnit gives the functions of one unit their regions, by the signatures of the functions ahead (their bodies are not looked at).
func PlaceUnit(p api.Program, unit int, ahead []api.Fun) (funs []api.Fun, e api.Errno) {
	defer func() {
		if r := recover(); r != nil {
			funs, e = nil, errorOf(r)
		}
	}()
	e = flat.Valid(p)
	require(e == api.OK, e)
	require(callsBackward(&p), api.ErrPlace)
	var own []int
	count := 0
	for i := range p.Funs {
		if p.Funs[i].Unit < unit {
			count++
		} else if p.Funs[i].Unit == unit {
			own = append(own, i)
		}
	}
	require(len(ahead) == count, api.ErrPlace)
	all := newPlacer(&p)
	for i := range ahead {
		require(isSignatureOf(&ahead[i], &p.Funs[i]), api.ErrPlace)
		all.done[i] = signatureOf(&ahead[i])
		require(all.done[i].isOrdered(), api.ErrPlace)
	}
	funs = all.placeAll(own)
	require(!outline.IsBig(&api.Program{Funs: funs}), api.ErrBig)
	return funs, api.OK
}

// callsBackward tells whether the numbers of units rise, and functions call those of their own unit and of units ahead alone.
func callsBackward(p *api.Program) bool {
	for i := range p.Funs {
		f := &p.Funs[i]
		if i > 0 && f.Unit < p.Funs[i-1].Unit {
			return false
		}
		for _, s := range outline.Steps(&f.Body) {
			if s.Op == api.OCall && p.Funs[s.Code].Unit > f.Unit {
				return false
			}
		}
	}
	return true
}

// bounds are how many regions and effect variables a signature has.
type bounds struct{ regions, effects int }

// isSignatureOf tells whether a function has the signature of a flat one, but for which effects have which variables.
func isSignatureOf(f, of *api.Fun) bool {
	if f.Name != of.Name || f.Unit != of.Unit || f.Types != of.Types || len(f.Params) != len(of.Params) {
		return false
	}
	if f.Regions < 0 || f.Regions > maxRegions {
		return false
	}
	in := bounds{f.Regions, f.Effects}
	for i := range f.Params {
		if !in.fits(&f.Params[i], &of.Params[i]) {
			return false
		}
	}
	return in.fits(&f.Result, &of.Result) && in.isEffect(&f.Touch)
}

// fits tells whether a type is a flat one with regions and effects.
func (in bounds) fits(t, of *api.Type) bool {
	if t.Kind != of.Kind || t.N != of.N || t.Name != of.Name || len(t.Args) != len(of.Args) {
		return false
	}
	if outline.HasRegion(t.Kind) && !outline.IsBelow(t.Region, in.regions) || !outline.HasRegion(t.Kind) && t.Region != 0 {
		return false
	}
	if !outline.HasEffect(t.Kind) && len(t.Effect.Regions)+len(t.Effect.Vars) > 0 || !in.isEffect(&t.Effect) {
		return false
	}
	for i := range t.Args {
		if !in.fits(&t.Args[i], &of.Args[i]) {
			return false
		}
	}
	return true
}

func (in bounds) isEffect(e *api.Effect) bool {
	return outline.IsRising(e.Regions, in.regions) && outline.IsRising(e.Vars, in.effects)
}

// isOrdered tells whether each of the different effects has its own variable, by their order, and all that the effects have whose variables it has.
func (s *signature) isOrdered() bool {
	if len(s.own) != s.Effects {
		return false
	}
	var regions, variables []set
	for i := range s.own {
		regions = append(regions, setOf(s.own[i].Regions...))
		variables = append(variables, setOf(s.own[i].Vars...))
	}
	for i := range s.own {
		if !variables[i].has(i) {
			return false
		}
		for v := range variables[i].all() {
			if !regions[v].without(regions[i]).isEmpty() || !variables[v].without(variables[i]).isEmpty() {
				return false
			}
		}
	}
	return true
}
