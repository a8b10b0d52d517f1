package place_test

import (
	"maps"
	"slices"

	"heriot/api"
)

// effectNames are the names of the effects in Params and Result, each once, by where they stand first.
func (a *attempt) effectNames() []int {
	var out []int
	for _, e := range effectsIn(append(slices.Clone(a.params), a.result)...) {
		if name := a.alikeAs[e.Vars[0]]; !slices.Contains(out, name) {
			out = append(out, name)
		}
	}
	return out
}

// plainHead is the signature by what is the same alone.
func (a *attempt) plainHead() *head {
	f := a.Funs[a.fn]
	h := &head{Fun: api.Fun{Name: f.Name, Unit: f.Unit, Types: f.Types}}
	var regions []int
	own := a.effectNames()
	var number func(t api.Type) api.Type
	number = func(t api.Type) api.Type {
		if lies(t) {
			name := a.sameAs[t.Region]
			if !slices.Contains(regions, name) {
				regions = append(regions, name)
			}
			t.Region = slices.Index(regions, name)
		}
		if acts(t) {
			t.Effect = api.Effect{Vars: []int{slices.Index(own, a.alikeAs[t.Effect.Vars[0]])}}
		}
		t.Args = each(t.Args, number)
		return t
	}
	h.Params = each(a.params, number)
	h.Result = number(a.result)
	h.Regions, h.Effects = len(regions), len(own)
	return h
}

func (a *attempt) setOf(effect int) *contents {
	name := a.alikeAs[effect]
	if a.sets[name] == nil {
		a.sets[name] = &contents{map[int]bool{}, map[int]bool{}}
	}
	return a.sets[name]
}

// of is the set of an effect of a dressed type.
func (a *attempt) of(t api.Type) *contents { return a.setOf(t.Effect.Vars[0]) }

// allSets finds the sets of effects and the homes of regions, until no two of the function's own effects have equal sets.
func (a *attempt) allSets() {
	for again := true; again; {
		again = false
		a.own = map[int]int{}
		names := a.effectNames()
		for k, name := range names {
			a.own[name] = k
		}
		a.solve()
		for i, x := range names {
			for _, y := range names[:i] {
				if !again && maps.Equal(a.setOf(x).regions, a.setOf(y).regions) && maps.Equal(a.setOf(x).vars, a.setOf(y).vars) {
					makeSame(a.alikeAs, x, y)
					again = true
				}
			}
		}
	}
}

// solve begins with the homes by mentions that need no sets, and goes outward.
func (a *attempt) solve() {
	a.homes, a.sets = map[int]path{}, map[int]*contents{}
	a.goOutward()
	for again := true; again; {
		a.fill()
		again = a.goOutward()
	}
}

// fill finds the least sets for the homes.
func (a *attempt) fill() {
	a.sets = map[int]*contents{}
	for again := true; again; {
		before := a.size()
		for name, k := range a.own {
			a.setOf(name).vars[k] = true
		}
		for _, w := range a.steps {
			if w.Op == api.OCall {
				for _, e := range w.callee.different() {
					to := a.setOf(w.effs[w.callee.ownOf(e)])
					for _, r := range e.Regions {
						to.regions[a.sameAs[w.regs[r]]] = true
					}
					for _, v := range e.Vars {
						a.addAll(to, a.setOf(w.effs[v]))
					}
				}
			}
			if w.Op == api.OFn {
				a.fillLambda(w)
			}
		}
		if a.more != nil {
			a.more(a)
		}
		again = a.size() > before
	}
}

func (a *attempt) addAll(to, from *contents) {
	maps.Copy(to.regions, from.regions)
	maps.Copy(to.vars, from.vars)
}

func (a *attempt) size() int {
	n := 0
	for _, s := range a.sets {
		n += len(s.regions) + len(s.vars)
	}
	return n
}

func (a *attempt) fillLambda(w *worn) {
	inner := append(w.at(), 0)
	to := a.of(w.typ)
	for _, s := range a.steps {
		if !slices.Equal(s.lambda, inner) {
			continue
		}
		regions, effects := a.touches(s)
		all := &contents{map[int]bool{}, map[int]bool{}}
		for _, r := range regions {
			all.regions[a.sameAs[r]] = true
		}
		for _, e := range effects {
			a.addAll(all, a.setOf(e))
		}
		for r := range all.regions {
			if !a.hasHomeIn(r, inner) {
				to.regions[r] = true
			}
		}
		maps.Copy(to.vars, all.vars)
	}
}

func isIn(p, in path) bool { return len(p) >= len(in) && slices.Equal(p[:len(in)], in) }

// hasHomeIn tells whether the home of a region is a block, or stands in it; so it is taken as long as there is none.
func (a *attempt) hasHomeIn(r int, in path) bool {
	home, ok := a.homes[a.sameAs[r]]
	return !ok || home != nil && isIn(home, in)
}

func isMaking(s api.Step) bool {
	return s.Op == api.OMake && len(s.Args) > 0 || s.Op == api.OTuple || s.Op == api.OFn || s.Op == api.ORef || s.Op == api.OArray
}

// captured are the regions of which the closure that a step makes captures handles.
func (a *attempt) captured(w *worn) []int {
	inner := append(w.at(), 0)
	var out []int
	for _, s := range a.steps {
		if !isIn(s.block, inner) {
			continue
		}
		var named []int
		if isMaking(s.Step) {
			named = append(named, s.typ.Region)
		}
		if s.Op == api.OCall {
			for _, r := range s.callee.Touch.Regions {
				named = append(named, s.regs[r])
			}
		}
		for _, r := range named {
			if !a.hasHomeIn(r, inner) {
				out = append(out, r)
			}
		}
	}
	return out
}

// touches are the regions and the effects that a step touches.
func (a *attempt) touches(w *worn) (regions, effects []int) {
	if isMaking(w.Step) {
		regions = append(regions, w.typ.Region)
	}
	switch w.Op {
	case api.OFn:
		regions = append(regions, a.captured(w)...)
	case api.OGet, api.ODeref, api.OSet, api.OAt, api.OPut, api.OLen:
		regions = append(regions, a.types[w.Args[0]].Region)
	case api.OCase:
		of := a.types[w.Args[0]]
		if slices.ContainsFunc(a.Datas[of.N].Cons, func(c api.Con) bool { return len(c.Fields) > 0 }) {
			regions = append(regions, of.Region)
		}
	case api.OApply:
		of := a.types[w.Args[0]]
		regions, effects = append(regions, of.Region), append(effects, of.Effect.Vars[0])
	case api.OCall:
		for _, r := range w.callee.Touch.Regions {
			regions = append(regions, w.regs[r])
		}
		for _, v := range w.callee.Touch.Vars {
			effects = append(effects, w.effs[v])
		}
	}
	return regions, effects
}

// touched are the regions that a step touches, those in effects too.
func (a *attempt) touched(w *worn) map[int]bool {
	regions, effects := a.touches(w)
	out := map[int]bool{}
	for _, r := range regions {
		out[a.sameAs[r]] = true
	}
	for _, e := range effects {
		maps.Copy(out, a.setOf(e).regions)
	}
	return out
}

// standsIn are the regions that stand in types, as regions or in effects.
func (a *attempt) standsIn(types ...api.Type) map[int]bool {
	out := map[int]bool{}
	for _, r := range regionsIn(types...) {
		out[a.sameAs[r]] = true
	}
	for _, e := range effectsIn(types...) {
		maps.Copy(out, a.setOf(e.Vars[0]).regions)
	}
	return out
}

// mentions are the regions that a step mentions.
func (a *attempt) mentions(w *worn) map[int]bool {
	out := a.standsIn(append(slices.Clone(w.types), w.typ)...)
	if w.Op == api.OHandle {
		maps.Copy(out, a.standsIn(a.types[w.Blocks[0].Value]))
	}
	for _, r := range w.regs {
		out[a.sameAs[r]] = true
	}
	for k := range w.effs {
		maps.Copy(out, a.effectsOf(w, k).regions)
	}
	maps.Copy(out, a.touched(w))
	return out
}

// effectsOf is what a call has for one of its callee's effects.
func (a *attempt) effectsOf(w *worn, k int) *contents {
	out := &contents{maps.Clone(a.setOf(w.effs[k]).regions), a.setOf(w.effs[k]).vars}
	for _, r := range w.callee.different()[k].Regions {
		delete(out.regions, a.sameAs[w.regs[r]])
	}
	return out
}

// goOutward finds the homes anew, and tells whether one has changed.
func (a *attempt) goOutward() bool {
	homes := maps.Clone(a.homes)
	for _, w := range a.steps {
		for r := range a.mentions(w) {
			home, ok := homes[r]
			switch {
			case !ok:
				homes[r] = slices.Clone(w.block)
			case home != nil:
				// A path of a block has as many numbers for each block around.
				for !isIn(w.block, home) {
					home = home[:len(home)-2]
				}
				homes[r] = home
			}
		}
	}
	for r := range a.standsIn(append(slices.Clone(a.params), a.result)...) {
		homes[r] = nil
	}
	isSame := maps.EqualFunc(a.homes, homes, func(x, y path) bool { return (x == nil) == (y == nil) && slices.Equal(x, y) })
	a.homes = homes
	return !isSame
}

func (a *attempt) isFormal(r int) bool {
	home, ok := a.homes[r]
	return ok && home == nil
}

// originOf is where a region comes from.
func (a *attempt) originOf(r int) from {
	for o, name := range a.foreign {
		if a.sameAs[name] == r {
			return o
		}
	}
	return from{a.fn, a.key(r)}
}

// key is the least place at which a region stands; none for a name for an origin.
func (a *attempt) key(r int) int {
	return slices.IndexFunc(a.places, func(name int) bool { return a.sameAs[name] == r })
}
