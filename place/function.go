package place

import "heriot/api"

// function is a function that is worked on.
type function struct {
	*group
	number           int
	flat             *api.Fun
	regions, effects names
	own              struct{ regions, effects int } // how many names stand in Params and Result: they are the first ones
	params           []*dressed
	result           *dressed
	outside          *block // around the body: the home of formals
	body             *block
	steps            []*step // in the order of the text
	types            map[int]*dressed
	late             map[int]bound // variables whose types are written out where they are asked for
	callers          []*call       // in the group
	handed           int           // how many regions it hands to functions that are done
	knowledge
	numbering
	added   int // how many steps begin or end a region
	written int // how many numbers have been written
	out     *api.Fun
	sign    *signature
}

// bound is a variable that a case binds: the pattern of the field, and the type at which that is.
type bound struct{ of, at *dressed }

// room is a function, or a lambda in it, whose steps touch something.
type room struct {
	around  *room // nil for a function
	block   *block
	arrow   *dressed // of a lambda
	touched int      // the holder of what its steps touch
	named   set      // the regions of which handles are needed in it, at all depths
}

type block struct {
	*room
	of     *step // the step whose block it is
	text   *api.Block
	around *block
	depth  int
	steps  []*step
	begins map[int][]int // the regions that begin ahead of a step, by its number
	ends   map[int][]int // those that began elsewhere and end there
	unused map[int]bool  // of the regions that begin here, those that end at once
}

type step struct {
	*api.Step
	block  *block
	index  int
	typ    *dressed
	types  []*dressed
	blocks []*block
	call   *call
	self   set // the regions that it touches in itself
	whole  set // those that it touches in itself or inside
}

// call is a call of a known function.
type call struct {
	by      *function
	step    *step
	done    *signature // of a callee that is not of the group
	of      *function  // a callee that is
	in      instance
	actuals []int        // the regions for the callee's, when these are numbered
	effects []int        // the holders of the names for its effects, likewise
	spread  set          // the regions in what the call has for its effects
	last    map[int]bool // which of the regions that the callee may touch it gives back
}

// types are the patterns of what a callee takes and gives.
func (c *call) types() ([]*dressed, *dressed) {
	if c.of != nil {
		return c.of.params, c.of.result
	}
	return c.done.params, c.done.result
}

// lay dresses all types of a function; the names of regions have the order of their places.
func (f *function) lay() {
	for i := range f.flat.Params {
		t := f.dress(&f.flat.Params[i])
		f.params = append(f.params, t)
		f.types[i] = t
	}
	f.result = f.dress(&f.flat.Result)
	f.own.regions, f.own.effects = len(f.regions), len(f.effects)
	f.outside = &block{}
	f.body = f.layBlock(&f.flat.Body, f.outside, nil, &room{})
}

func (f *function) layBlock(text *api.Block, around *block, of *step, in *room) *block {
	b := &block{room: in, of: of, text: text, around: around, depth: around.depth + 1, begins: map[int][]int{}, ends: map[int][]int{}, unused: map[int]bool{}}
	if in.block == nil {
		in.block = b
	}
	for i := range text.Steps {
		b.steps = append(b.steps, f.layStep(&text.Steps[i], b, i))
	}
	return b
}

func (f *function) layStep(text *api.Step, in *block, index int) *step {
	s := &step{Step: text, block: in, index: index, typ: f.dress(&text.Type)}
	f.steps = append(f.steps, s)
	for i := range text.Types {
		s.types = append(s.types, f.dress(&text.Types[i]))
	}
	if s.Op == api.OCall {
		s.call = f.layCall(s)
	}
	for i := range text.Blocks {
		own := in.room
		if s.Op == api.OFn {
			own = &room{around: in.room, arrow: s.typ}
		}
		f.bind(s, i)
		s.blocks = append(s.blocks, f.layBlock(&text.Blocks[i], in, s, own))
	}
	f.types[s.Out] = s.typ
	return s
}

// layCall gives new names to the regions and effects of a callee that is done. They have places in the caller.
func (f *function) layCall(s *step) *call {
	c := &call{by: f, step: s, in: instance{types: s.types}}
	if c.of = f.working[s.Code]; c.of != nil {
		return c
	}
	c.done = f.done[s.Code]
	f.handed += c.done.Regions + len(c.done.Touch.Regions)
	require(f.handed <= api.MaxNodes, api.ErrBig)
	c.in.regions, c.in.effects = f.regions.fresh(c.done.Regions), f.effects.fresh(c.done.Effects)
	return c
}

// link gives new names to what stands in the signatures of callees of the group.
func (f *function) link(s *step) {
	if c := s.call; c != nil && c.of != nil {
		c.in.regions, c.in.effects = f.regions.fresh(c.of.own.regions), f.effects.fresh(c.of.own.effects)
		c.of.callers = append(c.of.callers, c)
	}
}

// bind gives types to the variables that a block of a step binds.
func (f *function) bind(s *step, which int) {
	binds := s.Blocks[which].Bind
	switch s.Op {
	case api.OFn:
		f.types[binds[0]] = s.typ.parts[0]
	case api.OCase:
		of := f.arg(s, 0)
		for i, v := range binds {
			f.late[v] = bound{f.fields[of.n][which][i], of}
		}
	case api.OHandle:
		if which == 1 {
			f.types[binds[0]] = f.value(s.blocks[0])
		} else if which > 1 {
			f.types[binds[0]] = &dressed{kind: api.TInt}
		}
	}
}

// typeOf is the type of a variable. A case may bind many that nobody asks for.
func (f *function) typeOf(v int) *dressed {
	t, ok := f.types[v]
	if !ok {
		of := f.late[v]
		t = at(of.at).written(of.of)
		f.types[v] = t
	}
	return t
}

func (f *function) arg(s *step, i int) *dressed { return f.typeOf(s.Args[i]) }

func (f *function) value(b *block) *dressed { return f.typeOf(b.text.Value) }

// each hands the steps to a visitor, in the order of the text.
func (f *function) each(visit func(*step)) {
	for _, s := range f.steps {
		visit(s)
	}
}
