package engine

import (
	"slices"

	"heriot/api"
	"heriot/outline"
)

// routine is the body of a function, or of a lambda, that is ready to be run: its variables have places in its frames, the first ones those of its parameters.
type routine struct {
	places  int
	body    block
	touch   []int     // of a function: the formals of which its frames get handles
	takes   []capture // of a lambda: the variables that a closure captures
	regions []int     // of a lambda: the regions of which a closure captures handles
	fun     int
	path    []int // where its body stands in the function
}

// capture is a variable that a closure takes with it: its place where the closure is made, and its place in the closure's own frames.
type capture struct{ from, to int }

type block struct {
	code  int
	binds []int
	steps []step
	value int
}

// step is a step whose variables are places.
type step struct {
	op      int
	out     int
	args    []int
	number  int64 // Int
	code    int
	region  int
	regions []int
	modes   []int
	keep    []int
	touches bool // it touches the cell of its first argument, if that has one
	blocks  []block
	lambda  *routine
}

// text is a function that is made ready, and where in it one is.
type text struct {
	handles map[*api.Step][]int
	number  int
	at      []int
}

// layout gives places to the variables of a routine.
type layout struct {
	*text
	*routine
	outer *layout // of the routine in which a lambda stands
	known map[int]int
}

// prepare makes the functions of a program ready.
func prepare(p *api.Program) []*routine {
	var out []*routine
	for i := range p.Funs {
		f := &p.Funs[i]
		l := newLayout(&text{handles: outline.Handles(p, f), number: i}, nil)
		l.touch = f.Touch.Regions
		for v := range f.Params {
			l.add(v)
		}
		l.body = l.block(&f.Body)
		out = append(out, l.routine)
	}
	return out
}

func newLayout(t *text, outer *layout) *layout {
	return &layout{t, &routine{fun: t.number, path: slices.Clone(t.at)}, outer, map[int]int{}}
}

// add gives a place to a variable.
func (l *layout) add(v int) int {
	l.known[v] = l.places
	l.places++
	return l.known[v]
}

func (l *layout) adds(variables []int) []int {
	var out []int
	for _, v := range variables {
		out = append(out, l.add(v))
	}
	return out
}

// find is the place of a variable that is in scope; a lambda takes it with it where it is one of the routine around.
func (l *layout) find(v int) int {
	place, ok := l.known[v]
	if !ok {
		from := l.outer.find(v)
		place = l.add(v)
		l.takes = append(l.takes, capture{from, place})
	}
	return place
}

func (l *layout) finds(variables []int) []int {
	var out []int
	for _, v := range variables {
		out = append(out, l.find(v))
	}
	return out
}

func (l *layout) block(b *api.Block) block {
	out := block{code: b.Code, binds: l.adds(b.Bind)}
	for i := range b.Steps {
		l.at = append(l.at, i)
		out.steps = append(out.steps, l.step(&b.Steps[i]))
		l.at = l.at[:len(l.at)-1]
	}
	out.value = l.find(b.Value)
	return out
}

func (l *layout) step(s *api.Step) step {
	out := step{op: s.Op, args: l.finds(s.Args), number: s.Int, code: s.Code, touches: outline.Reads(s.Op),
		region: s.Region, regions: s.Regions, modes: s.Modes, keep: s.Keep}
	for i := range s.Blocks {
		l.at = append(l.at, i)
		if s.Op == api.OFn {
			out.lambda = l.inner(s)
		} else {
			out.blocks = append(out.blocks, l.block(&s.Blocks[i]))
		}
		l.at = l.at[:len(l.at)-1]
	}
	if s.Op < api.ONew {
		out.out = l.add(s.Out)
	}
	return out
}

func (l *layout) inner(s *api.Step) *routine {
	own := newLayout(l.text, l)
	own.regions = l.handles[s]
	own.body = own.block(&s.Blocks[0])
	return own.routine
}
