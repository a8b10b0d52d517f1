package machine

import (
	"slices"

	"heriot/api"
	"heriot/code"
	"heriot/handles"
)

// enter begins a frame. Those that are not needed any more are not kept: a loop that calls itself last runs in one frame.
func (r *run) enter(f *frame) {
	first := max(len(r.frames)-1, 0)
	if r.isLoose {
		first, r.isLoose = 0, false
	}
	needed := slices.DeleteFunc(r.frames[first:], r.handsOn)
	r.frames = r.frames[:first+len(needed)]
	r.frames.Push(f)
	r.depth = max(r.depth, len(r.frames))
}

// handsOn tells whether a frame that waits only hands on what its callee gives.
func (r *run) handsOn(f *frame) bool {
	if len(f.tries) > 0 {
		return false
	}
	for _, h := range f.Set {
		if h.Owns && !r.instances[h.Instance].hasEnded {
			return false
		}
	}
	return isLast(f.list, f.doing())
}

// isLast tells whether the result of a Call, or of an Apply, is only handed on.
func isLast(list []code.Instruction, call int) bool {
	result := list[call].R
	for next := call + 1; ; {
		switch in := list[next]; in {
		case code.Instruction{Op: code.Jump, To: in.To}:
			next = in.To
		case code.Instruction{Op: code.Move, R: in.R, A: result}:
			result = in.R
			next++
		default:
			return in == code.Instruction{Op: code.Return, A: result}
		}
	}
}

// call begins a call of a known function. All handles are looked up ahead of any that goes.
func (r *run) call(f *frame, in *code.Instruction) {
	callee := &r.image.Funs[in.N]
	var given handles.Set
	for k, p := range in.Pairs {
		h, ok := f.Set[p.Region]
		if !ok {
			r.fault = api.FTouch
			return
		}
		h.Owns = h.Owns && p.Mode == api.Last
		given.Give(callee.Touch[k], h)
	}
	if !r.spend(1) {
		return
	}
	r.handOver(f, in, callee, given)
	next := newFrame(callee, 0)
	next.Set = given
	copy(next.registers, f.values(in))
	r.enter(next)
}

// handOver takes the handles away that a call gives to its callee for the last time.
func (r *run) handOver(f *frame, in *code.Instruction, callee *code.Function, given handles.Set) {
	for k, p := range in.Pairs {
		if p.Mode != api.Last {
			continue
		}
		if _, ok := f.Set[p.Region]; !ok {
			// It went with an earlier pair: the callee has it twice, and may own it twice.
			r.instances[given[callee.Touch[k]].Instance].isShared = true
		}
		f.Drop(p.Region)
	}
}

// apply begins a call of a closure.
func (r *run) apply(f *frame, in *code.Instruction) {
	c, ok := r.touch(f.registers[in.A], closure, 0)
	if !ok || !r.spend(1) {
		return
	}
	words := r.fields(c, 0)
	next := newFrame(c.closing.fun, int(words[0].number))
	taken := listed(c.closing.by)
	for i, register := range taken {
		next.registers[register] = words[1+i]
	}
	for i, region := range c.closing.by.Lists.Regions {
		if instance := int(words[1+len(taken)+i].number); instance != noInstance {
			next.Give(region, handles.Handle{Instance: instance})
		}
	}
	bound := c.closing.by.Lists.Registers[len(taken)]
	next.registers[bound] = f.registers[in.B]
	r.enter(next)
}

// leave ends a call with its value. Its handles end nothing.
func (r *run) leave(f *frame, in *code.Instruction) {
	v := f.registers[in.A]
	if len(r.frames) == 1 && v.kind == reference {
		r.fault = api.FStuck
		return
	}
	r.frames.Pop()
	if len(r.frames) == 0 {
		r.answer = v.number
		return
	}
	caller := *r.frames.Top()
	caller.registers[caller.list[caller.doing()].R] = v
}

// try opens a try.
func (r *run) try(f *frame, in *code.Instruction) { f.tries.Push(in) }

// untry closes the newest open try.
func (r *run) untry(f *frame, in *code.Instruction) {
	if len(f.tries) == 0 {
		r.fault = api.FStuck
		return
	}
	f.tries.Pop()
}

func (r *run) raise(f *frame, in *code.Instruction) { r.throw(in.N, f.registers[in.A].number) }

// throw leaves frames up to one with an open try that has an arm for an exception.
func (r *run) throw(exn int, payload int64) {
	for len(r.frames) > 0 {
		f := *r.frames.Top()
		if arm, keep, ok := f.handler(exn); ok {
			f.Leave(keep, r.endInstance)
			f.registers[arm.Register] = intOf(payload)
			f.next = arm.To
			return
		}
		f.Leave(nil, r.endInstance)
		r.frames.Pop()
	}
	r.fault, r.exn, r.payload = api.FExn, exn, payload
}

// handler closes the tries of a frame up to the newest one that has an arm for an exception: the arm, and the regions whose handles stay.
func (f *frame) handler(exn int) (arm code.Arm, keep []int, ok bool) {
	for len(f.tries) > 0 {
		in := f.tries.Pop()
		for _, arm := range in.Arms {
			if arm.Exn == exn {
				return arm, in.Lists.Regions, true
			}
		}
	}
	return code.Arm{}, nil, false
}
