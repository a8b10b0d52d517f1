package flat

import "heriot/api"

// arg is the value of an argument of a step.
func (f *frame) arg(s *step, i int) value { return f.values[s.args[i]] }

func (f *frame) args(s *step) []value {
	var out []value
	for _, a := range s.args {
		out = append(out, f.values[a])
	}
	return out
}

// step does a step. One that has blocks, or that is a call, is only begun: it gets its value when these have ended.
func (r *run) step(f *frame, s *step) {
	switch s.op {
	case api.OIf:
		f.branch(s, int(1-f.arg(s, 0).number))
	case api.OCase:
		of := f.arg(s, 0)
		f.branch(s, int(of.number), of.parts()...)
	case api.OHandle:
		f.branch(s, 0)
	case api.OCall:
		if r.spend(1) {
			r.call(r.funs[s.code], f.args(s)...)
		}
	case api.OApply:
		if r.spend(1) {
			r.apply(f.arg(s, 0).cell, f.arg(s, 1))
		}
	case api.OArray:
		r.array(f, s)
	case api.OAt, api.OPut:
		r.element(f, s)
	case api.ORaise:
		r.raise(s.code, f.arg(s, 0).number)
	case api.OPrint:
		r.outs = append(r.outs, f.arg(s, 0).number)
	case api.ODiv, api.OMod:
		if f.arg(s, 1).number == 0 {
			r.raise(codeDiv, 0)
			return
		}
		fallthrough
	default:
		f.values[s.out] = f.simple(s)
	}
}

// apply begins a call of a closure.
func (r *run) apply(closure *cell, argument value) {
	f := r.call(closure.routine, argument)
	for i, c := range closure.routine.takes {
		f.values[c.to] = closure.parts[i]
	}
}

func (r *run) array(f *frame, s *step) {
	size := f.arg(s, 0).number
	if size < 0 || size > api.MaxArray {
		r.raise(codeSize, size)
		return
	}
	if !r.spend(int(size)) {
		return
	}
	parts := make([]value, size)
	for i := range parts {
		parts[i] = f.arg(s, 1)
	}
	f.values[s.out] = value{cell: &cell{parts: parts}}
}

// element reads an element of an array, or changes it.
func (r *run) element(f *frame, s *step) {
	parts, i := f.arg(s, 0).cell.parts, f.arg(s, 1).number
	switch {
	case i < 0 || i >= int64(len(parts)):
		r.raise(codeIndex, i)
	case s.op == api.OAt:
		f.values[s.out] = parts[i]
	default:
		parts[i] = f.arg(s, 2)
	}
}

// simple is the value of a step that has no blocks, calls nothing and raises nothing.
func (f *frame) simple(s *step) value {
	switch s.op {
	case api.OInt, api.OBool:
		return value{number: s.number}
	case api.OUnit:
		return value{}
	case api.OMake:
		return made(s.code, f.args(s))
	case api.OTuple, api.ORef:
		return made(0, f.args(s))
	case api.OFn:
		return f.closure(s.lambda)
	case api.OGet:
		return f.arg(s, 0).cell.parts[s.number]
	case api.ODeref:
		return f.arg(s, 0).cell.parts[0]
	case api.OSet:
		f.arg(s, 0).cell.parts[0] = f.arg(s, 1)
		return value{}
	case api.OLen:
		return value{number: int64(len(f.arg(s, 0).cell.parts))}
	}
	return calculated(s.op, f.arg(s, 0).number, f.arg(s, 1).number)
}

func (f *frame) closure(of *routine) value {
	out := value{cell: &cell{routine: of}}
	for _, c := range of.takes {
		out.cell.parts = append(out.cell.parts, f.values[c.from])
	}
	return out
}

// calculated is the value of an operation on two ints, the second one not 0 where it divides.
func calculated(op int, a, b int64) value {
	switch op {
	case api.OAdd:
		return value{number: a + b}
	case api.OSub:
		return value{number: a - b}
	case api.OMul:
		return value{number: a * b}
	case api.ODiv:
		return value{number: a / b}
	case api.OMod:
		return value{number: a % b}
	case api.OEq:
		return truth(a == b)
	}
	return truth(a < b)
}
