package flat

import "heriot/api"

// The numbers of the exceptions that every program has.
const (
	codeDiv = iota
	codeIndex
	codeSize
)

// run is what a run has done so far. It has its frames in a list of its own: calls are nested as deep as there is fuel, and blocks in each of them.
type run struct {
	funs    []*routine
	frames  stack[*frame]
	fuel    int
	ticks   int
	outs    []int64
	answer  int64
	fault   int
	exn     int
	payload int64
}

// frame is a call that is going on.
type frame struct {
	values []value
	open   stack[place] // the blocks that are being run, the innermost last
}

// place is where a run is in a block, which is the one of this number in its step.
type place struct {
	block *block
	which int
	next  int
}

// waiting is the step in whose block, or in whose callee, the run is.
func (f *frame) waiting() *step {
	p := f.open.top()
	return &p.block.steps[p.next-1]
}

// enter begins a block.
func (f *frame) enter(b *block, which int, binds ...value) {
	for i, v := range binds {
		f.values[b.binds[i]] = v
	}
	f.open.push(place{block: b, which: which})
}

// branch begins a block of a step.
func (f *frame) branch(s *step, which int, binds ...value) {
	f.enter(&s.blocks[which], which, binds...)
}

// result runs until nothing is left to be done.
func (r *run) result(exns []string) api.Result {
	for r.fault == api.FNone && len(r.frames) > 0 {
		f := *r.frames.top()
		p := f.open.top()
		if p.next == len(p.block.steps) {
			r.finish(f)
			continue
		}
		p.next++
		r.step(f, f.waiting())
	}
	out := api.Result{Outs: r.outs, Fault: r.fault, Ticks: r.ticks}
	switch r.fault {
	case api.FNone:
		out.Answer = r.answer
	case api.FExn:
		out.Exn, out.Payload = exns[r.exn], r.payload
	}
	return out
}

// finish ends the innermost block of a frame.
func (r *run) finish(f *frame) {
	p := f.open.pop()
	v := f.values[p.block.value]
	if len(f.open) == 0 {
		r.leave(v)
		return
	}
	s := f.waiting()
	if s.op == api.OHandle && p.which == 0 {
		f.branch(s, 1, v)
		return
	}
	f.values[s.out] = v
}

// leave ends a call with its value.
func (r *run) leave(v value) {
	r.frames.pop()
	if len(r.frames) == 0 {
		r.answer = v.number
		return
	}
	caller := *r.frames.top()
	caller.values[caller.waiting().out] = v
}

// raise leaves blocks and calls up to a handle that has an arm for an exception.
func (r *run) raise(exn int, payload int64) {
	for len(r.frames) > 0 {
		f := *r.frames.top()
		for len(f.open) > 0 {
			p := f.open.pop()
			if p.which != 0 || len(f.open) == 0 || f.waiting().op != api.OHandle {
				continue
			}
			if arm, ok := armOf(f.waiting(), exn); ok {
				f.branch(f.waiting(), arm, value{number: payload})
				return
			}
		}
		r.frames.pop()
	}
	r.fault, r.exn, r.payload = api.FExn, exn, payload
}

func armOf(s *step, exn int) (int, bool) {
	for i := 2; i < len(s.blocks); i++ {
		if s.blocks[i].code == exn {
			return i, true
		}
	}
	return 0, false
}

// spend tells whether there is fuel for some ticks, and spends them.
func (r *run) spend(ticks int) bool {
	if r.ticks+ticks > r.fuel {
		r.ticks, r.fault = r.fuel, api.FFuel
		return false
	}
	r.ticks += ticks
	return true
}

// call begins a call, whose arguments have the first places of its frame.
func (r *run) call(of *routine, args ...value) *frame {
	f := &frame{values: make([]value, of.places)}
	copy(f.values, args)
	f.enter(&of.body, 0)
	r.frames.push(f)
	return f
}
