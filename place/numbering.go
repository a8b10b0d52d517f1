package place

import (
	"cmp"
	"slices"

	"heriot/api"
	"heriot/outline"
)

// numbering is how the regions and the effect variables of a function are numbered where it is written.
type numbering struct {
	formals    []int       // the regions that are formals, by their numbers
	numbers    []int       // of the regions
	variables  []int       // the least names of the effects that have variables of their own, by the numbers of these
	variableOf map[int]int // the numbers of variables, by the least names of the signature's effects
}

// order numbers the formals and the effect variables.
func (f *function) order() {
	f.numbers = make([]int, len(f.homes))
	for r := range f.homes {
		if f.isFormal(r) {
			f.formals = append(f.formals, r)
		}
	}
	f.sort(f.formals, f.isHidden)
	for number, r := range f.formals {
		f.numbers[r] = number
	}
	f.variableOf = map[int]int{}
	for _, h := range f.holders {
		if !h.isOwn {
			continue
		}
		first := f.firstLike(h)
		if first == h.name {
			f.variableOf[first] = len(f.variables)
			f.variables = append(f.variables, first)
		}
		f.variableOf[h.name] = f.variableOf[first]
	}
}

// sort sorts regions by their origins, some of them behind the others.
func (f *function) sort(regions []int, isBehind func(int) bool) {
	slices.SortFunc(regions, func(a, b int) int {
		if isBehind(a) != isBehind(b) {
			if isBehind(a) {
				return 1
			}
			return -1
		}
		x, y := f.originOf(a), f.originOf(b)
		return cmp.Or(cmp.Compare(x.fun, y.fun), cmp.Compare(x.place, y.place))
	})
}

// firstLike is the least name of the signature's effects that have the same set as one of them. Two that have each other's variable have all that the other one has: the regions in them are formals, which no lambda keeps for itself.
func (f *function) firstLike(h *holder) int {
	for v := range h.variables.all() {
		if f.holders[f.holderAt[v]].variables.has(h.name) {
			return v
		}
	}
	return h.name
}

// finish finds the regions and the effects for those of a callee, by their numbers.
func (c *call) finish() {
	if c.of == nil {
		for r := range c.done.Regions {
			c.actuals = append(c.actuals, c.region(r))
		}
		for e := range c.done.Effects {
			c.effects = append(c.effects, c.holder(e))
		}
	} else {
		c.done = c.of.sign
		for _, r := range c.of.formals {
			c.actuals = append(c.actuals, c.region(r))
		}
		for _, e := range c.of.variables {
			c.effects = append(c.effects, c.holder(e))
		}
	}
	c.last = map[int]bool{}
	for e := range c.effects {
		regions, _ := c.effect(e)
		c.spread.addAll(regions)
	}
}

// effect is what a call has for one of the callee's effects beside the regions for that one's own.
func (c *call) effect(number int) (regions, variables set) {
	h := c.by.holders[c.effects[number]]
	regions = h.regions.without(nil)
	for _, r := range c.done.own[number].Regions {
		regions.drop(c.actuals[r])
	}
	return regions, h.variables
}

// lookAt finds what a step touches in itself, when all is known.
func (f *function) lookAt(s *step) {
	if s.call != nil {
		s.call.finish()
	}
	switch {
	case s.Op == api.OCall:
		for _, r := range s.call.done.Touch.Regions {
			s.self.add(s.call.actuals[r])
		}
		for _, e := range s.call.done.Touch.Vars {
			s.self.addAll(f.holders[s.call.effects[e]].regions)
		}
	case s.Op == api.OFn:
		inner := s.blocks[0]
		for r := range inner.room.named.all() {
			if !f.homes[r].isIn(inner) {
				s.self.add(r)
			}
		}
	case f.reads(s):
		of := f.arg(s, 0)
		s.self.add(f.regionAt[of.region])
		if s.Op == api.OApply {
			s.self.addAll(f.holderOf(of).regions)
		}
	}
	if outline.Needs(s.Step) {
		s.self.add(f.regionAt[s.typ.region])
	}
}

// mentioned are the regions that a step mentions.
func (f *function) mentioned(s *step) set {
	out := s.self.without(nil)
	f.addMentions(&out, s.typ)
	for _, t := range s.types {
		f.addMentions(&out, t)
	}
	if s.Op == api.OHandle {
		f.addMentions(&out, f.value(s.blocks[0]))
	}
	if s.call != nil {
		for _, r := range s.call.actuals {
			out.add(r)
		}
		for _, e := range s.call.effects {
			out.addAll(f.holders[e].regions)
		}
	}
	return out
}

func (f *function) addMentions(to *set, t *dressed) {
	if outline.HasRegion(t.kind) {
		to.add(f.regionAt[t.region])
	}
	if outline.HasEffect(t.kind) {
		to.addAll(f.holderOf(t).regions)
	}
	for _, part := range t.parts {
		f.addMentions(to, part)
	}
}

// beginLocals finds the steps ahead of which the locals begin, and numbers them.
func (f *function) beginLocals() {
	begun := setOf(f.formals...)
	for _, s := range f.steps {
		news := f.mentioned(s).without(begun)
		begun.addAll(news)
		for r := range news.all() {
			at := s
			for at.block != f.homes[r] {
				at = at.block.of
			}
			at.block.begins[at.index] = append(at.block.begins[at.index], r)
		}
	}
	f.numberLocals(f.body, len(f.formals))
}

// numberLocals numbers the locals that begin in a block, at all depths, and gives the next number.
func (f *function) numberLocals(b *block, next int) int {
	for i, s := range b.steps {
		f.sort(b.begins[i], f.isForeign)
		for _, r := range b.begins[i] {
			f.numbers[r] = next
			next++
		}
		for _, inner := range s.blocks {
			next = f.numberLocals(inner, next)
		}
	}
	return next
}

// isForeign tells whether a region is a name for an origin, so that it has no place in the function.
func (f *function) isForeign(r int) bool { return r >= len(f.keys) }
