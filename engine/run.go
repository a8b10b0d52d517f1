package engine

import (
	"slices"

	"heriot/api"
	"heriot/handles"
	"heriot/stack"
)

// run is what a run has done so far. It has its frames in a list of its own: calls are nested as deep as there is fuel, and blocks in each of them.
type run struct {
	funs    []*routine
	frames  stack.Of[*frame]
	meter   *meter // nil if cells lie in no regions
	fuel    int
	ticks   int
	outs    []int64
	answer  int64
	fault   int
	exn     int
	payload int64
}

// frame is a call that is going on. It has its handles' methods.
type frame struct {
	handles.Set
	*routine
	values []value
	open   stack.Of[place] // the blocks that are being run, the innermost last
}

// place is where a run is in a block, which is the one of this number in its step.
type place struct {
	block *block
	which int
	next  int
}

// doing is the step that a run is doing in the block at a place.
func (p *place) doing() *step { return &p.block.steps[p.next-1] }

// enter begins a block.
func (f *frame) enter(b *block, which int, binds ...value) {
	for i, v := range binds {
		f.values[b.binds[i]] = v
	}
	f.open.Push(place{block: b, which: which})
}

// branch begins a block of a step.
func (f *frame) branch(s *step, which int, binds ...value) {
	f.enter(&s.blocks[which], which, binds...)
}

// result runs until nothing is left to be done, or nothing more is asked for.
func (r *run) result(exns []string) api.Result {
	for r.fault == api.FNone && len(r.frames) > 0 && !r.meter.isOver() {
		f := *r.frames.Top()
		p := f.open.Top()
		if p.next == len(p.block.steps) {
			r.finish(f)
			continue
		}
		p.next++
		r.step(f, p.doing())
	}
	out := api.Result{Outs: r.outs, Fault: r.fault, Ticks: r.ticks}
	switch r.fault {
	case api.FNone:
		out.Answer = r.answer
	case api.FExn:
		out.Exn, out.Payload = exns[r.exn], r.payload
	}
	return out
}

// finish ends the innermost block of a frame.
func (r *run) finish(f *frame) {
	p := f.open.Pop()
	v := f.values[p.block.value]
	if len(f.open) == 0 {
		r.leave(v)
		return
	}
	s := f.open.Top().doing()
	if s.op == api.OHandle && p.which == 0 {
		f.branch(s, 1, v)
		return
	}
	f.values[s.out] = v
}

// leave ends a call with its value.
func (r *run) leave(v value) {
	r.frames.Pop()
	if len(r.frames) == 0 {
		r.answer = v.number
		return
	}
	caller := *r.frames.Top()
	caller.values[caller.open.Top().doing().out] = v
}

// raise leaves blocks and calls up to a handle that has an arm for an exception.
func (r *run) raise(exn int, payload int64) {
	for len(r.frames) > 0 {
		f := *r.frames.Top()
		if depth, arm, ok := f.handler(exn); ok {
			s := f.open[depth].doing()
			f.Leave(s.keep, r.meter.end)
			f.open = f.open[:depth+1]
			f.branch(s, arm, value{number: payload})
			return
		}
		f.Leave(nil, r.meter.end)
		r.frames.Pop()
	}
	r.fault, r.exn, r.payload = api.FExn, exn, payload
}

// handler finds the innermost handle with an arm for an exception, whose first block is being run: which of the open blocks has it, and the number of the arm.
func (f *frame) handler(exn int) (depth, arm int, ok bool) {
	for depth := len(f.open) - 2; depth >= 0; depth-- {
		s := f.open[depth].doing()
		if s.op != api.OHandle || f.open[depth+1].which != 0 {
			continue
		}
		for arm := 2; arm < len(s.blocks); arm++ {
			if s.blocks[arm].code == exn {
				return depth, arm, true
			}
		}
	}
	return 0, 0, false
}

// spend tells whether there is fuel for some ticks, and spends them.
func (r *run) spend(ticks int) bool {
	if r.ticks+ticks > r.fuel {
		r.ticks, r.fault = r.fuel, api.FFuel
		return false
	}
	r.ticks += ticks
	return true
}

// call begins a call, whose arguments have the first places of its frame.
func (r *run) call(of *routine, args ...value) *frame {
	f := &frame{routine: of, values: make([]value, of.places)}
	copy(f.values, args)
	f.enter(&of.body, 0)
	r.frames.Push(f)
	return f
}

// look gives the frames as they are, outermost first.
func (r *run) look() []api.Frame {
	var out []api.Frame
	for _, f := range r.frames {
		own := api.Frame{Fun: f.fun, Path: f.spot()}
		for _, h := range f.Owned() {
			own.Regions = append(own.Regions, h.Region)
			own.Instances = append(own.Instances, h.Instance)
		}
		out = append(out, own)
	}
	return out
}

// spot is the path of the step that a frame is doing.
func (f *frame) spot() []int {
	out := slices.Clone(f.path)
	for i, p := range f.open {
		if i > 0 {
			out = append(out, p.which)
		}
		out = append(out, p.next-1)
	}
	return out
}
