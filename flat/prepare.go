package flat

import "heriot/api"

// routine is the body of a function, or of a lambda, that is ready to be run: its variables have places in its frames, the first ones those of its parameters.
type routine struct {
	places int
	body   block
	takes  []capture // of a lambda
}

// capture is a variable that a closure takes with it: its place where the closure is made, and its place in the closure's own frames.
type capture struct{ from, to int }

type block struct {
	code  int
	binds []int
	steps []step
	value int
}

// step is a step whose variables are places.
type step struct {
	op     int
	out    int
	args   []int
	number int64 // Int
	code   int
	blocks []block
	lambda *routine
}

// layout gives places to the variables of a routine.
type layout struct {
	*routine
	outer *layout // of the routine in which a lambda stands
	known map[int]int
}

// prepare makes the functions of a program ready.
func prepare(p *api.Program) []*routine {
	var out []*routine
	for i := range p.Funs {
		l := newLayout(nil)
		for v := range p.Funs[i].Params {
			l.add(v)
		}
		l.body = l.block(&p.Funs[i].Body)
		out = append(out, l.routine)
	}
	return out
}

func newLayout(outer *layout) *layout {
	return &layout{&routine{}, outer, map[int]int{}}
}

// add gives a place to a variable.
func (l *layout) add(v int) int {
	l.known[v] = l.places
	l.places++
	return l.known[v]
}

func (l *layout) adds(variables []int) []int {
	var out []int
	for _, v := range variables {
		out = append(out, l.add(v))
	}
	return out
}

// find is the place of a variable that is in scope; a lambda takes it with it where it is one of the routine around.
func (l *layout) find(v int) int {
	place, ok := l.known[v]
	if !ok {
		from := l.outer.find(v)
		place = l.add(v)
		l.takes = append(l.takes, capture{from, place})
	}
	return place
}

func (l *layout) finds(variables []int) []int {
	var out []int
	for _, v := range variables {
		out = append(out, l.find(v))
	}
	return out
}

func (l *layout) block(b *api.Block) block {
	out := block{code: b.Code, binds: l.adds(b.Bind)}
	for i := range b.Steps {
		out.steps = append(out.steps, l.step(&b.Steps[i]))
	}
	out.value = l.find(b.Value)
	return out
}

func (l *layout) step(s *api.Step) step {
	out := step{op: s.Op, args: l.finds(s.Args), number: s.Int, code: s.Code}
	if s.Op == api.OFn {
		out.lambda = l.inner(&s.Blocks[0])
	} else {
		for i := range s.Blocks {
			out.blocks = append(out.blocks, l.block(&s.Blocks[i]))
		}
	}
	out.out = l.add(s.Out)
	return out
}

func (l *layout) inner(b *api.Block) *routine {
	own := newLayout(l)
	own.body = own.block(b)
	return own.routine
}
