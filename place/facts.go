package place

import "heriot/api"

// origin is where a hidden region comes from: a function, by its number, and one of its places.
type origin struct{ fun, place int }

// fact is a part of what a signature says: one of its effects, or what the function touches, has a region or an effect variable. Of a function of the group these are the numbers that package place gives to regions, and the least names of effects; of one that is done those of its signature.
type fact struct {
	of         *function
	effect     int // touched, if it is what the function touches
	isVariable bool
	number     int
}

// touched stands for what a function touches, in a fact.
const touched = -1

// report says what is new in a signature.
func (f *function) report(effect int, regions, variables set) {
	if len(f.callers) == 0 {
		return
	}
	for r := range regions.all() {
		f.facts = append(f.facts, fact{f, effect, false, r})
	}
	for v := range variables.all() {
		f.facts = append(f.facts, fact{f, effect, true, v})
	}
}

// reportNews says what is new in an effect of the signature, but for what callers know by then: that it has the variable of another one which has that.
func (f *function) reportNews(h *holder, regions, variables set) {
	if len(f.callers) == 0 {
		return
	}
	said := h.toldVariables.without(variables)
	said.drop(h.name)
	for v := range variables.all() {
		if !f.anyOther(said, func(other *holder) bool { return other.toldVariables.has(v) }) {
			f.report(h.name, nil, setOf(v))
		}
		if v != h.name {
			said.add(v)
		}
	}
	for r := range regions.all() {
		if !f.anyOther(said, func(other *holder) bool { return other.toldRegions.has(r) }) {
			f.report(h.name, setOf(r), nil)
		}
	}
}

// anyOther tells whether something holds for one of the signature's effects, by their least names.
func (f *function) anyOther(names set, is func(*holder) bool) bool {
	for name := range names.all() {
		if is(f.holders[f.holderAt[name]]) {
			return true
		}
	}
	return false
}

// settle lets the functions of a group know of each other what their signatures say, until nothing is new: then the second pass ends.
func (g *group) settle() {
	for {
		for _, f := range g.functions {
			f.settle()
		}
		if len(g.facts) == 0 {
			return
		}
		news := g.facts
		g.facts = nil
		for _, n := range news {
			for _, c := range n.of.callers {
				c.apply(n)
			}
		}
	}
}

// apply lets a caller know a part of a callee's signature.
func (c *call) apply(n fact) {
	f, in := c.by, c.step.block
	if n.isVariable {
		to := in.room.touched
		if n.effect != touched {
			to = c.holder(n.effect)
		}
		f.include(c.holder(n.number), to)
		return
	}
	r := c.region(n.number)
	f.mention(r, in)
	if n.effect == touched {
		f.need(r, in.room)
	} else {
		f.give(c.holder(n.effect), setOf(r), nil)
	}
}

// applyAll lets a caller know the signature of a callee that is done.
func (c *call) applyAll() {
	effect := func(number int, e *api.Effect) {
		for _, r := range e.Regions {
			c.apply(fact{nil, number, false, r})
		}
		for _, v := range e.Vars {
			c.apply(fact{nil, number, true, v})
		}
	}
	for i := range c.done.own {
		effect(i, &c.done.own[i])
	}
	effect(touched, &c.done.Touch)
}

// holder is the holder of the name for an effect of the callee's signature.
func (c *call) holder(effect int) int { return c.by.holderAt[c.in.effects[effect]] }

// region is the region for one of the callee's.
func (c *call) region(r int) int {
	if c.of == nil {
		return c.by.regionAt[c.in.regions[r]]
	}
	if !c.of.isHidden(r) {
		return c.by.regionAt[c.in.regions[c.of.keys[r]]]
	}
	return c.by.regionFor(c.of.originOf(r))
}

// isHidden tells whether a region of a function does not stand in Params and Result as a region.
func (f *function) isHidden(r int) bool { return r >= len(f.keys) || f.keys[r] >= f.own.regions }

// originOf is the function and the place at which a region stands first, or the origin for which it is a name.
func (f *function) originOf(r int) origin {
	if r < len(f.keys) {
		return origin{f.number, f.keys[r]}
	}
	return f.origins[r-len(f.keys)]
}

// regionFor is the region for a hidden one of the group: the function's own, or its name for the origin.
func (f *function) regionFor(o origin) int {
	if o.fun == f.number {
		return f.regionAt[o.place]
	}
	r, ok := f.foreign[o]
	if !ok {
		r = len(f.keys) + len(f.origins)
		f.foreign[o] = r
		f.origins = append(f.origins, o)
		f.homes = append(f.homes, nil)
		require(r < maxRegions, api.ErrBig)
	}
	return r
}

// need says that handles of a region are needed in a function or a lambda, and so in the lambdas around: their closures capture them, if the region does not have its home in there.
func (f *function) need(r int, in *room) {
	for ; in != nil; in = in.around {
		in.named.add(r)
		f.give(in.touched, setOf(r), nil)
	}
}
