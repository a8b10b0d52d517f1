package place

import (
	"heriot/api"
	"heriot/outline"
)

// open gives a holder to a function, or to a lambda, for what its steps touch.
func (f *function) open(in *room) {
	in.touched = f.hold(&holder{room: in})
}

// begin says what is known of a function ahead of what its callees' signatures say: its formals, and its own effect variables.
func (f *function) begin() {
	f.open(f.body.room)
	for _, t := range f.params {
		f.stands(t, f.outside)
	}
	f.stands(f.result, f.outside)
	for number, h := range f.holders {
		if h.isOwn {
			f.give(number, nil, setOf(h.name))
		}
	}
}

// stands says that a type stands in a block: the regions in it are mentioned there, and those in its effects.
func (f *function) stands(t *dressed, in *block) {
	if outline.HasRegion(t.kind) {
		f.mention(f.regionAt[t.region], in)
	}
	if outline.HasEffect(t.kind) {
		h := f.holderOf(t)
		h.mentioned = common(h.mentioned, in)
	}
	for _, part := range t.parts {
		f.stands(part, in)
	}
}

// observe says what a step mentions and touches.
func (f *function) observe(s *step) {
	f.stands(s.typ, s.block)
	for _, t := range s.types {
		f.stands(t, s.block)
	}
	switch {
	case s.Op == api.OHandle:
		f.stands(f.value(s.blocks[0]), s.block)
	case s.Op == api.OCall:
		f.observeCall(s.call)
	case s.Op == api.OFn:
		f.open(s.blocks[0].room)
	}
	if outline.Needs(s.Step) {
		f.need(f.regionAt[s.typ.region], s.block.room)
	}
	if f.reads(s) {
		f.observeRead(s)
	}
}

func (f *function) observeCall(c *call) {
	for _, name := range c.in.regions {
		f.mention(c.by.regionAt[name], c.step.block)
	}
	for _, name := range c.in.effects {
		h := f.holders[f.holderAt[name]]
		h.mentioned = common(h.mentioned, c.step.block)
	}
	if c.of == nil {
		c.applyAll()
	}
}

// reads tells whether a step touches the cell of its first argument.
func (f *function) reads(s *step) bool {
	return outline.Reads(s.Op) && (s.Op != api.OCase || outline.HasCells(&f.Datas[f.arg(s, 0).n]))
}

func (f *function) observeRead(s *step) {
	of, to := f.arg(s, 0), s.block.room.touched
	r := f.regionAt[of.region]
	f.mention(r, s.block)
	f.give(to, setOf(r), nil)
	if s.Op == api.OApply {
		h := f.holderOf(of)
		h.mentioned = common(h.mentioned, s.block)
		f.include(f.holderAt[of.effect], to)
	}
}
