package engine

import (
	"heriot/api"
	"heriot/outline"
)

// arg is the value of an argument of a step.
func (f *frame) arg(s *step, i int) value { return f.values[s.args[i]] }

func (f *frame) args(s *step) []value {
	var out []value
	for _, a := range s.args {
		out = append(out, f.values[a])
	}
	return out
}

// step does a step. One that has blocks, or that is a call, is only begun: it gets its value when these have ended.
func (r *run) step(f *frame, s *step) {
	if s.touches && !r.touch(f.arg(s, 0).cell) {
		return
	}
	switch s.op {
	case api.ONew:
		r.begins(f, s.region)
	case api.OEnd:
		r.ends(f, s.region)
	case api.OIf:
		f.branch(s, int(1-f.arg(s, 0).number))
	case api.OCase:
		of := f.arg(s, 0)
		f.branch(s, int(of.number), of.parts()...)
	case api.OHandle:
		f.branch(s, 0)
	case api.OCall:
		r.known(f, s)
	case api.OApply:
		r.apply(f.arg(s, 0).cell, f.arg(s, 1))
	case api.OMake, api.OTuple, api.OFn, api.ORef:
		r.make(f, s)
	case api.OArray:
		r.array(f, s)
	case api.OAt, api.OPut:
		r.element(f, s)
	case api.ORaise:
		r.raise(s.code, f.arg(s, 0).number)
	case api.OPrint:
		r.outs = append(r.outs, f.arg(s, 0).number)
	case api.ODiv, api.OMod:
		if f.arg(s, 1).number == 0 {
			r.raise(outline.Div, 0)
			return
		}
		fallthrough
	default:
		f.values[s.out] = f.simple(s)
	}
}

// known begins a call of a known function. All handles are looked up ahead of any that goes.
func (r *run) known(f *frame, s *step) {
	callee := r.funs[s.code]
	given, ok := f.given(s, callee)
	if !ok {
		r.fault = api.FTouch
		return
	}
	if !r.spend(1) {
		return
	}
	own := r.call(callee, f.args(s)...)
	for i, formal := range callee.touch {
		if s.modes[i] == api.Last {
			f.Drop(s.regions[formal])
		}
		own.Give(formal, given[i])
	}
}

// apply begins a call of a closure.
func (r *run) apply(closure *cell, argument value) {
	if !r.spend(1) {
		return
	}
	f := r.call(closure.routine, argument)
	for i, c := range closure.routine.takes {
		f.values[c.to] = closure.parts[i]
	}
	for region, h := range closure.handles {
		f.Give(region, h)
	}
}

// make makes a cell, but for a constructor without fields.
func (r *run) make(f *frame, s *step) {
	c := &cell{parts: f.args(s)}
	words := len(c.parts)
	switch {
	case s.op == api.OFn:
		c = f.closure(s.lambda)
		words = 1 + len(s.lambda.takes) + len(s.lambda.regions)
	case s.op == api.OMake && words == 0:
		f.values[s.out] = value{number: int64(s.code)}
		return
	case s.op == api.OMake:
		words++
	}
	if r.allocate(f, s.region, c, words) {
		f.values[s.out] = value{int64(s.code), c}
	}
}

func (f *frame) closure(of *routine) *cell {
	out := &cell{routine: of, handles: f.Captured(of.regions)}
	for _, c := range of.takes {
		out.parts = append(out.parts, f.values[c.from])
	}
	return out
}

func (r *run) array(f *frame, s *step) {
	size := f.arg(s, 0).number
	if size < 0 || size > api.MaxArray {
		r.raise(outline.Size, size)
		return
	}
	if !r.spend(int(size)) {
		return
	}
	c := &cell{parts: make([]value, size)}
	for i := range c.parts {
		c.parts[i] = f.arg(s, 1)
	}
	if r.allocate(f, s.region, c, 1+len(c.parts)) {
		f.values[s.out] = value{cell: c}
	}
}

// element reads an element of an array, or changes it.
func (r *run) element(f *frame, s *step) {
	parts, i := f.arg(s, 0).cell.parts, f.arg(s, 1).number
	switch {
	case i < 0 || i >= int64(len(parts)):
		r.raise(outline.Index, i)
	case s.op == api.OAt:
		f.values[s.out] = parts[i]
	default:
		parts[i] = f.arg(s, 2)
	}
}

// simple is the value of a step that makes nothing, calls nothing and raises nothing.
func (f *frame) simple(s *step) value {
	switch s.op {
	case api.OInt, api.OBool:
		return value{number: s.number}
	case api.OUnit:
		return value{}
	case api.OGet:
		return f.arg(s, 0).cell.parts[s.number]
	case api.ODeref:
		return f.arg(s, 0).cell.parts[0]
	case api.OSet:
		f.arg(s, 0).cell.parts[0] = f.arg(s, 1)
		return value{}
	case api.OLen:
		return value{number: int64(len(f.arg(s, 0).cell.parts))}
	}
	return calculated(s.op, f.arg(s, 0).number, f.arg(s, 1).number)
}

// calculated is the value of an operation on two ints, the second one not 0 where it divides.
func calculated(op int, a, b int64) value {
	switch op {
	case api.OAdd:
		return value{number: a + b}
	case api.OSub:
		return value{number: a - b}
	case api.OMul:
		return value{number: a * b}
	case api.ODiv:
		return value{number: a / b}
	case api.OMod:
		return value{number: a % b}
	case api.OEq:
		return truth(a == b)
	}
	return truth(a < b)
}
