package machine

import (
	"cmp"
	"slices"

	"heriot/api"
	"heriot/code"
)

// readObjects reads objects, and tells whether all of them are well-formed.
func readObjects(objects [][]byte) ([]*code.Object, bool) {
	var out []*code.Object
	for _, bytes := range objects {
		o, ok := code.ReadObject(bytes)
		if !ok {
			return nil, false
		}
		out = append(out, o)
	}
	return out, true
}

// doFit tells whether objects are those of a program's units.
func doFit(list []*code.Object) bool {
	if len(list) == 0 {
		return false
	}
	var ahead []code.Function
	for i, o := range list {
		if i > 0 && o.Unit <= list[i-1].Unit || o.Ahead != len(ahead) || !callsRight(o, ahead) {
			return false
		}
		if isLast := i == len(list)-1; isLast != (o.Main > 0) {
			return false
		}
		ahead = append(ahead, o.Funs...)
	}
	last := list[len(list)-1]
	return len(ahead) <= api.MaxNodes && last.Funs[last.Main-1].CanBeMain() && areOfOneName(list)
}

// callsRight tells whether an object calls functions of other objects as these ask.
func callsRight(o *code.Object, ahead []code.Function) bool {
	for in := range code.Instructions(o.Funs) {
		if in.Op == code.Call && in.N < len(ahead) && !in.Calls(ahead, in.N) {
			return false
		}
	}
	return true
}

// areOfOneName tells whether no number of an exception has two names.
func areOfOneName(list []*code.Object) bool {
	names := map[int]string{}
	for _, o := range list {
		for _, e := range o.Exns {
			if name, ok := names[e.Number]; ok && name != e.Name {
				return false
			}
			names[e.Number] = e.Name
		}
	}
	return true
}

// imageOf joins objects that fit.
func imageOf(list []*code.Object) *code.Image {
	m := &code.Image{}
	for _, o := range list {
		m.Main = len(m.Funs) + o.Main - 1
		m.Funs = append(m.Funs, o.Funs...)
		m.Exns = append(m.Exns, o.Exns...)
	}
	slices.SortFunc(m.Exns, func(a, b code.Exception) int { return cmp.Compare(a.Number, b.Number) })
	m.Exns = slices.Compact(m.Exns)
	return m
}
