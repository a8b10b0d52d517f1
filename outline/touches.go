package outline

import (
	"slices"

	"heriot/api"
)

// Reads tells whether steps of an operation read or write the cell of their first argument, if that has one.
func Reads(op int) bool {
	switch op {
	case api.OGet, api.ODeref, api.OSet, api.OAt, api.OPut, api.OLen, api.OApply, api.OCase:
		return true
	}
	return false
}

// HasCells tells whether one of the constructors of a data type has fields.
func HasCells(d *api.Data) bool {
	return slices.ContainsFunc(d.Cons, func(c api.Con) bool { return len(c.Fields) > 0 })
}

// Touched is what a step of a region program touches; of is the type of its first argument, if it has one, and captured the regions of which a closure that it makes captures handles.
func Touched(p *api.Program, s *api.Step, of *api.Type, captured []int) api.Effect {
	switch {
	case s.Op == api.OFn:
		return regionsOf(append(slices.Clone(captured), s.Region)...)
	case Needs(s):
		return regionsOf(s.Region)
	case s.Op == api.OApply:
		return api.Effect{Regions: append(slices.Clone(of.Effect.Regions), of.Region), Vars: of.Effect.Vars}
	case s.Op == api.OCall:
		return Of(s).Effect(&p.Funs[s.Code].Touch)
	case Reads(s.Op) && (s.Op != api.OCase || HasCells(&p.Datas[of.N])):
		return regionsOf(of.Region)
	}
	return api.Effect{}
}

func regionsOf(list ...int) api.Effect { return api.Effect{Regions: list} }
