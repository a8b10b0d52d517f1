package machine_test

import (
	"cmp"
	"slices"

	"heriot/api"
)

// Values of the judge are nil (nothing), int64 and *judgedCell.
type judgedCell struct {
	kind     int // the op that made it
	code     int
	values   []any
	fun      int
	by       judgedStep
	handles  map[int]judgedHandle
	instance int
}

type judgedHandle struct {
	instance int
	owns     bool
}

type judgedFrame struct {
	fun       int
	code      []judgedStep
	at        int // the instruction that it does
	next      int
	registers []any
	handles   map[int]judgedHandle
	tries     []judgedStep
}

// judgedRun is a run of an image, with what there was by each event.
type judgedRun struct {
	*judged
	frames []*judgedFrame
	words  []int // of each instance
	ended  []bool
	fuel   int
	out    api.Run
	outs   []int // how many outputs there were by each event
	ticks  []int
	depth  int
	spare  int // how many waiting frames were not needed, in all
	loose  int // how many of these because another frame had ended what they own
}

// judge runs an image that is well-formed.
func judge(j *judged, args []int64, fuel int) *judgedRun {
	r := &judgedRun{judged: j, fuel: min(max(fuel, 0), api.MaxFuel), outs: []int{0}, ticks: []int{0}}
	if len(args) != j.funs[j.main].params {
		r.out.Result.Fault = api.FStuck
		return r
	}
	f := r.enter(j.main, 0)
	for i, n := range args {
		f.registers[i] = n
	}
	r.count()
	for r.out.Result.Fault == api.FNone && len(r.frames) > 0 {
		f := r.frames[len(r.frames)-1]
		f.at = f.next
		f.next++
		// A wrong instruction ends the run, with the fault that it has set.
		isRight(func() { r.do(f, f.code[f.at]) })
	}
	return r
}

func (r *judgedRun) enter(fun, code int) *judgedFrame {
	f := &judgedFrame{fun: fun, code: r.funs[fun].codes[code], registers: make([]any, r.funs[fun].registers), handles: map[int]judgedHandle{}}
	r.frames = append(r.frames, f)
	return f
}

// count counts the frames that are needed.
func (r *judgedRun) count() {
	needed := 1
	for _, f := range r.frames[:len(r.frames)-1] {
		owns, owned := false, false
		for _, h := range f.handles {
			owns = owns || h.owns && !r.ended[h.instance]
			owned = owned || h.owns
		}
		switch {
		case owns || len(f.tries) > 0 || !isLastCall(f.code, f.at):
			needed++
		case owned:
			r.loose++
			fallthrough
		default:
			r.spare++
		}
	}
	r.depth = max(r.depth, needed)
}

// isLastCall goes the way of the result of the k-th instruction.
func isLastCall(code []judgedStep, k int) bool {
	r, i := code[k].n[0], k+1
	for {
		s := code[i]
		switch {
		case s.op == 26:
			i = s.n[0]
		case s.op == 1 && s.n[1] == r:
			r, i = s.n[0], i+1
		default:
			return s.op == 29 && s.n[0] == r
		}
	}
}

// fail ends the run by a fault.
func (r *judgedRun) fail(fault int) {
	r.out.Result.Fault = fault
	panic(wrong{})
}

func (r *judgedRun) event(kind, instance, words int) {
	held := 0
	for i, n := range r.words {
		if !r.ended[i] {
			held += n
		}
	}
	r.out.Events = append(r.out.Events, api.Event{Kind: kind, Region: instance, Words: words, Held: held})
	r.out.Peak, r.out.Left = max(r.out.Peak, held), held
	r.outs = append(r.outs, len(r.out.Result.Outs))
	r.ticks = append(r.ticks, r.out.Result.Ticks)
}

func (r *judgedRun) end(instance int) {
	if !r.ended[instance] {
		r.ended[instance] = true
		r.event(api.VEnd, instance, r.words[instance])
	}
}

func (r *judgedRun) spend(ticks int) {
	if r.out.Result.Ticks+ticks > r.fuel {
		r.out.Result.Ticks = r.fuel
		r.fail(api.FFuel)
	}
	r.out.Result.Ticks += ticks
}

// read reads registers.
func (r *judgedRun) read(f *judgedFrame, registers ...int) []any {
	var out []any
	for _, a := range registers {
		if f.registers[a] == nil {
			r.fail(api.FStuck)
		}
		out = append(out, f.registers[a])
	}
	return out
}

func (r *judgedRun) int(v any) int64 {
	n, ok := v.(int64)
	if !ok {
		r.fail(api.FStuck)
	}
	return n
}

func (r *judgedRun) cell(v any) *judgedCell {
	c, ok := v.(*judgedCell)
	if !ok {
		r.fail(api.FStuck)
	}
	return c
}

// touch touches a cell that is of one of some kinds, and has a field.
func (r *judgedRun) touch(c *judgedCell, isRight bool) {
	switch {
	case r.ended[c.instance]:
		r.fail(api.FTouch)
	case !isRight:
		r.fail(api.FStuck)
	}
	r.event(api.VTouch, c.instance, 0)
}

func (r *judgedRun) make(f *judgedFrame, region, words int, c *judgedCell) *judgedCell {
	h, ok := f.handles[region]
	if !ok || r.ended[h.instance] {
		r.fail(api.FTouch)
	}
	c.instance = h.instance
	r.words[h.instance] += words
	r.event(api.VAlloc, h.instance, words)
	return c
}

func (r *judgedRun) do(f *judgedFrame, s judgedStep) {
	n := s.n
	switch s.op {
	case 0:
		f.registers[n[0]] = s.v
	case 1:
		f.registers[n[0]] = r.read(f, n[1])[0]
	case 2:
		values := r.read(f, s.lists[0]...)
		f.registers[n[0]] = r.make(f, n[1], 1+len(values), &judgedCell{kind: 2, code: n[2], values: values})
	case 3:
		values := r.read(f, s.lists[0]...)
		f.registers[n[0]] = r.make(f, n[1], len(values), &judgedCell{kind: 3, values: values})
	case 4:
		c := r.cell(r.read(f, n[1])[0])
		r.touch(c, c.kind == 3 && n[2] < len(c.values))
		f.registers[n[0]] = c.values[n[2]]
	case 5:
		v := r.read(f, n...)
		c := r.cell(v[0])
		r.touch(c, c.kind == 3 && len(c.values) > 0)
		c.values[0] = v[1]
	case 6:
		r.close(f, s)
	case 7:
		r.apply(f, s)
	case 8:
		r.call(f, s)
	case 9:
		v := r.read(f, n[2], n[3])
		size := r.int(v[0])
		if size < 0 || size > api.MaxArray {
			r.raise(2, size)
			return
		}
		r.spend(int(size))
		f.registers[n[0]] = r.make(f, n[1], 1+int(size), &judgedCell{kind: 9, values: slices.Repeat([]any{v[1]}, int(size))})
	case 10, 11:
		r.element(f, s)
	case 12:
		c := r.cell(r.read(f, n[1])[0])
		r.touch(c, c.kind == 9)
		f.registers[n[0]] = int64(len(c.values))
	case 13:
		r.raise(n[0], r.int(r.read(f, n[1])[0]))
	case 14:
		f.tries = append(f.tries, s)
	case 15:
		if len(f.tries) == 0 {
			r.fail(api.FStuck)
		}
		f.tries = f.tries[:len(f.tries)-1]
	case 16:
		r.out.Result.Outs = append(r.out.Result.Outs, r.int(r.read(f, n[0])[0]))
	case 24:
		if r.int(r.read(f, n[0])[0]) == 0 {
			f.next = n[1]
		}
	case 25:
		r.choose(f, s)
	case 26:
		f.next = n[0]
	case 27:
		r.words, r.ended = append(r.words, 0), append(r.ended, false)
		f.handles[n[0]] = judgedHandle{len(r.words) - 1, true}
		r.event(api.VNew, len(r.words)-1, 0)
	case 28:
		h, ok := f.handles[n[0]]
		if !ok {
			r.fail(api.FTouch)
		}
		delete(f.handles, n[0])
		if h.owns {
			r.end(h.instance)
		}
	case 29:
		r.leave(r.read(f, n[0])[0])
	default:
		r.calculate(f, s)
	}
}

func (r *judgedRun) calculate(f *judgedFrame, s judgedStep) {
	v := r.read(f, s.n[1:]...)
	a, b := r.int(v[0]), r.int(v[1])
	if (s.op == 20 || s.op == 21) && b == 0 {
		r.raise(0, 0)
		return
	}
	var out int64
	switch s.op {
	case 17:
		out = a + b
	case 18:
		out = a - b
	case 19:
		out = a * b
	case 20:
		out = a / b
	case 21:
		out = a % b
	case 22:
		if a == b {
			out = 1
		}
	case 23:
		if a < b {
			out = 1
		}
	}
	f.registers[s.n[0]] = out
}

func (r *judgedRun) element(f *judgedFrame, s judgedStep) {
	array, i := s.n[1:], 0
	if s.op == 11 {
		array = s.n
	}
	v := r.read(f, array...)
	c := r.cell(v[0])
	number := r.int(v[1])
	r.touch(c, c.kind == 9)
	if number < 0 || number >= int64(len(c.values)) {
		r.raise(1, number)
		return
	}
	i = int(number)
	if s.op == 11 {
		c.values[i] = v[2]
	} else {
		f.registers[s.n[0]] = c.values[i]
	}
}

func (r *judgedRun) close(f *judgedFrame, s judgedStep) {
	last := len(s.lists[0]) - 1
	c := &judgedCell{kind: 6, values: r.read(f, s.lists[0][:last]...), fun: f.fun, by: s, handles: map[int]judgedHandle{}}
	for _, h := range s.lists[1] {
		if of, ok := f.handles[h]; ok {
			c.handles[h] = judgedHandle{of.instance, false}
		}
	}
	f.registers[s.n[0]] = r.make(f, s.n[1], 1+last+len(s.lists[1]), c)
}

func (r *judgedRun) apply(f *judgedFrame, s judgedStep) {
	v := r.read(f, s.n[1:]...)
	c := r.cell(v[0])
	r.touch(c, c.kind == 6)
	r.spend(1)
	own := r.enter(c.fun, c.by.n[2])
	for i, register := range c.by.lists[0] {
		if i < len(c.values) {
			own.registers[register] = c.values[i]
		} else {
			own.registers[register] = v[1]
		}
	}
	for name, h := range c.handles {
		own.handles[name] = h
	}
	r.count()
}

func (r *judgedRun) call(f *judgedFrame, s judgedStep) {
	values := r.read(f, s.lists[0]...)
	for _, pair := range s.tuples {
		if _, ok := f.handles[pair[0]]; !ok {
			r.fail(api.FTouch)
		}
	}
	r.spend(1)
	own := r.enter(s.n[1], 0)
	copy(own.registers, values)
	for k, pair := range s.tuples {
		h := f.handles[pair[0]]
		own.handles[r.funs[s.n[1]].touch[k]] = judgedHandle{h.instance, h.owns && pair[1] == 1}
	}
	for _, pair := range s.tuples {
		if pair[1] == 1 {
			delete(f.handles, pair[0])
		}
	}
	r.count()
}

func (r *judgedRun) leave(v any) {
	last := len(r.frames) - 1
	if last == 0 {
		r.out.Result.Answer = r.int(v)
	}
	r.frames = r.frames[:last]
	if last > 0 {
		caller := r.frames[last-1]
		caller.registers[caller.code[caller.at].n[0]] = v
	}
}

func (r *judgedRun) choose(f *judgedFrame, s judgedStep) {
	v := r.read(f, s.n[0])[0]
	k, isInt := v.(int64)
	var fields []any
	if !isInt {
		c := r.cell(v)
		r.touch(c, c.kind == 2)
		k, fields = int64(c.code), c.values
	}
	if k < 0 || k >= int64(len(s.tuples)) || len(s.inner[k]) != len(fields) {
		r.fail(api.FStuck)
	}
	for i, register := range s.inner[k] {
		f.registers[register] = fields[i]
	}
	f.next = s.tuples[k][0]
}

// raise first looks for the frame that handles the exception, and then leaves the others.
func (r *judgedRun) raise(exn int, payload int64) {
	for i, f := range slices.Backward(r.frames) {
		for k, try := range slices.Backward(f.tries) {
			for _, arm := range try.tuples {
				if arm[0] != exn {
					continue
				}
				for _, inner := range slices.Backward(r.frames[i+1:]) {
					r.endAll(inner, nil)
				}
				r.frames = r.frames[:i+1]
				r.endAll(f, try.lists[0])
				f.tries = f.tries[:k]
				f.registers[arm[1]] = payload
				f.next = arm[2]
				return
			}
		}
	}
	for _, f := range slices.Backward(r.frames) {
		r.endAll(f, nil)
	}
	r.frames = nil
	r.out.Result.Fault, r.out.Result.Payload = api.FExn, payload
	r.out.Result.Exn = append([]string{"Div", "Index", "Size"}, r.names...)[r.numberOf(exn)]
}

// numberOf is where an exception's name stands behind those of all programs.
func (r *judgedRun) numberOf(exn int) int {
	if exn < 3 {
		return exn
	}
	return 3 + slices.Index(r.exns, exn)
}

func (r *judgedRun) endAll(f *judgedFrame, keep []int) {
	var all []judgedHandle
	for name, h := range f.handles {
		if h.owns && !slices.Contains(keep, name) {
			all = append(all, h)
			delete(f.handles, name)
		}
	}
	slices.SortFunc(all, func(a, b judgedHandle) int { return cmp.Compare(b.instance, a.instance) })
	for _, h := range all {
		r.end(h.instance)
	}
}

// at is the run as it was at its k-th event.
func (r *judgedRun) at(k int) api.Run {
	isStuck := r.out.Result.Fault == api.FStuck && r.depth == 0
	if len(r.out.Events) <= k || isStuck {
		return r.out
	}
	k = max(k, 0)
	out := api.Run{Events: r.out.Events[:k], Result: api.Result{Outs: r.out.Result.Outs[:r.outs[k]], Ticks: r.ticks[k]}}
	for _, e := range out.Events {
		out.Peak, out.Left = max(out.Peak, e.Held), e.Held
	}
	return out
}
