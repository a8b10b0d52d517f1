package place

import "heriot/api"

// findWhole finds what the steps of a block touch in themselves or inside, at all depths, and gives all of that.
func findWhole(b *block) set {
	var all set
	for _, s := range b.steps {
		s.whole = s.self.without(nil)
		for _, inner := range s.blocks {
			touched := findWhole(inner)
			if s.Op != api.OFn {
				s.whole.addAll(touched)
			}
		}
		all.addAll(s.whole)
	}
	return all
}

// giveAllBack finds where the regions of a function are given back.
func (f *function) giveAllBack() {
	findWhole(f.body)
	for _, r := range f.touchedFormals() {
		f.giveBack(r, f.body, 0)
	}
	f.giveLocals(f.body)
}

// giveLocals gives the locals back that begin in a block, at all depths.
func (f *function) giveLocals(b *block) {
	for i, s := range b.steps {
		for _, r := range b.begins[i] {
			f.countSteps(1)
			if b.lastTouch(r, i) == nil {
				f.countSteps(1)
				b.unused[r] = true
			} else {
				f.giveBack(r, b, i)
			}
		}
		for _, inner := range s.blocks {
			f.giveLocals(inner)
		}
	}
}

// countSteps counts steps that begin or end a region: each is a step with a type.
func (f *function) countSteps(more int) {
	f.added += more
	require(2*f.added <= api.MaxNodes, api.ErrBig)
}

// lastTouch is the last step of a block, from a place on, that touches a region.
func (b *block) lastTouch(r, from int) *step {
	for i := len(b.steps) - 1; i >= from; i-- {
		if b.steps[i].whole.has(r) {
			return b.steps[i]
		}
	}
	return nil
}

// giveBack gives a region back in a block from a place on, as early as may be.
func (f *function) giveBack(r int, b *block, from int) {
	s := b.lastTouch(r, from)
	if s == nil {
		f.endAt(r, b, from)
		return
	}
	switch s.Op {
	case api.OCall:
		if f.handOver(r, s.call) {
			return
		}
	case api.OIf, api.OCase:
		f.giveBackIn(r, s.blocks)
		return
	case api.OHandle:
		if anyTouches(s.blocks[1:], r) {
			f.giveBackIn(r, s.blocks[1:])
		} else {
			f.giveBackIn(r, s.blocks[:1])
		}
		return
	}
	f.endAt(r, b, s.index+1)
}

func (f *function) giveBackIn(r int, blocks []*block) {
	for _, b := range blocks {
		f.giveBack(r, b, 0)
	}
}

func (f *function) endAt(r int, b *block, at int) {
	f.countSteps(1)
	b.ends[at] = append(b.ends[at], r)
}

func anyTouches(blocks []*block, r int) bool {
	for _, b := range blocks {
		if b.lastTouch(r, 0) != nil {
			return true
		}
	}
	return false
}

// handOver lets a callee give a region back, if it can: if the region is the one for just one of the callee's, which that may touch, and stands in none of the call's effects.
func (f *function) handOver(r int, c *call) bool {
	formal := -1
	for i, actual := range c.actuals {
		if actual != r {
			continue
		}
		if formal >= 0 {
			return false
		}
		formal = i
	}
	if c.spread.has(r) {
		return false
	}
	for k, touched := range c.done.Touch.Regions {
		if touched == formal {
			c.last[k] = true
			return true
		}
	}
	return false
}
