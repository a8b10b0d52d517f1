package machine

import (
	"heriot/api"
	"heriot/code"
	"heriot/handles"
	"heriot/outline"
)

// operation is what the instructions of an op do, once they have what they read: for A, B and C, as far as the op has these, i is an int, c a cell and v any value.
type operation struct {
	reads string
	does  func(*run, *frame, *code.Instruction)
}

// operations are those of all ops.
func operations() []operation {
	return []operation{
		code.Load:   {"", (*run).load},
		code.Move:   {"v", (*run).move},
		code.Make:   {"", (*run).make},
		code.Cell:   {"", (*run).cell},
		code.Field:  {"c", (*run).field},
		code.Write:  {"cv", (*run).write},
		code.Close:  {"", (*run).close},
		code.Apply:  {"cv", (*run).apply},
		code.Call:   {"", (*run).call},
		code.Array:  {"iv", (*run).array},
		code.At:     {"ci", (*run).at},
		code.Put:    {"civ", (*run).put},
		code.Len:    {"c", (*run).len},
		code.Raise:  {"i", (*run).raise},
		code.Try:    {"", (*run).try},
		code.Untry:  {"", (*run).untry},
		code.Print:  {"i", (*run).print},
		code.Add:    {"ii", calculation(func(a, b int64) int64 { return a + b })},
		code.Sub:    {"ii", calculation(func(a, b int64) int64 { return a - b })},
		code.Mul:    {"ii", calculation(func(a, b int64) int64 { return a * b })},
		code.Div:    {"ii", division(func(a, b int64) int64 { return a / b })},
		code.Mod:    {"ii", division(func(a, b int64) int64 { return a % b })},
		code.Eq:     {"ii", comparison(func(a, b int64) bool { return a == b })},
		code.Less:   {"ii", comparison(func(a, b int64) bool { return a < b })},
		code.Branch: {"i", (*run).branch},
		code.Switch: {"v", (*run).switchTo},
		code.Jump:   {"", (*run).jump},
		code.New:    {"", (*run).begins},
		code.End:    {"", (*run).ends},
		code.Return: {"v", (*run).leave},
	}
}

// hasAll tells whether a frame has what an instruction reads.
func (f *frame) hasAll(in *code.Instruction, reads string) bool {
	read := [...]int{in.A, in.B, in.C}
	for i, what := range reads {
		kind := f.registers[read[i]].kind
		if kind == nothing || what == 'i' && kind != number || what == 'c' && kind != reference {
			return false
		}
	}
	for _, register := range listed(in) {
		if f.registers[register].kind == nothing {
			return false
		}
	}
	return true
}

// listed are the registers of an instruction's list that it reads. The last one of a Close is what its code binds.
func listed(in *code.Instruction) []int {
	switch {
	case in.Lists == nil:
		return nil
	case in.Op == code.Close:
		return in.Lists.Registers[:len(in.Lists.Registers)-1]
	}
	return in.Lists.Registers
}

// values are the values of the registers of an instruction's list.
func (f *frame) values(in *code.Instruction) []value {
	var out []value
	for _, register := range listed(in) {
		out = append(out, f.registers[register])
	}
	return out
}

func (r *run) load(f *frame, in *code.Instruction) { f.registers[in.R] = intOf(in.Int) }

func (r *run) move(f *frame, in *code.Instruction) { f.registers[in.R] = f.registers[in.A] }

func (r *run) make(f *frame, in *code.Instruction) {
	r.build(f, in, cell{kind: made}, append([]value{intOf(int64(in.N))}, f.values(in)...))
}

func (r *run) cell(f *frame, in *code.Instruction) {
	r.build(f, in, cell{kind: plain}, f.values(in))
}

func (r *run) close(f *frame, in *code.Instruction) {
	words := append([]value{intOf(int64(in.N))}, f.values(in)...)
	for _, region := range in.Lists.Regions {
		instance := noInstance
		if h, ok := f.Set[region]; ok {
			instance = h.Instance
		}
		words = append(words, intOf(int64(instance)))
	}
	r.build(f, in, cell{kind: closure, closing: &closing{f.fun, in}}, words)
}

func (r *run) array(f *frame, in *code.Instruction) {
	size, element := f.registers[in.A].number, f.registers[in.B]
	if size < 0 || size > api.MaxArray {
		r.throw(outline.Size, size)
		return
	}
	if !r.spend(int(size)) {
		return
	}
	words := []value{intOf(size)}
	for range size {
		words = append(words, element)
	}
	r.build(f, in, cell{kind: array}, words)
}

// build makes a cell of some words.
func (r *run) build(f *frame, in *code.Instruction, c cell, words []value) {
	h, ok := f.Set[in.H]
	if !ok || r.instances[h.Instance].hasEnded {
		r.fault = api.FTouch
		return
	}
	c.instance = h.Instance
	f.registers[in.R] = r.lay(c, words)
	r.record(api.VAlloc, h.Instance, len(words))
}

// touch touches a cell, and tells whether that can be done: it has to be of a kind, and to have a word.
func (r *run) touch(v value, kind, word int) (*cell, bool) {
	c, ok := r.find(v)
	switch {
	case !ok:
		r.fault = api.FTouch
	case c.kind != kind || word >= len(c.references):
		r.fault = api.FStuck
	default:
		r.record(api.VTouch, c.instance, 0)
	}
	return c, r.fault == api.FNone
}

func (r *run) field(f *frame, in *code.Instruction) {
	if c, ok := r.touch(f.registers[in.A], plain, in.N); ok {
		f.registers[in.R] = r.get(c, in.N)
	}
}

func (r *run) write(f *frame, in *code.Instruction) {
	if c, ok := r.touch(f.registers[in.A], plain, 0); ok {
		r.set(c, 0, f.registers[in.B])
	}
}

// element touches an array, and gives the word of one of its elements, if it has that.
func (r *run) element(f *frame, in *code.Instruction) (*cell, int, bool) {
	c, ok := r.touch(f.registers[in.A], array, 0)
	if !ok {
		return nil, 0, false
	}
	i := f.registers[in.B].number
	if i < 0 || i >= r.get(c, 0).number {
		r.throw(outline.Index, i)
		return nil, 0, false
	}
	return c, int(1 + i), true
}

func (r *run) at(f *frame, in *code.Instruction) {
	if c, word, ok := r.element(f, in); ok {
		f.registers[in.R] = r.get(c, word)
	}
}

func (r *run) put(f *frame, in *code.Instruction) {
	if c, word, ok := r.element(f, in); ok {
		r.set(c, word, f.registers[in.C])
	}
}

func (r *run) len(f *frame, in *code.Instruction) {
	if c, ok := r.touch(f.registers[in.A], array, 0); ok {
		f.registers[in.R] = r.get(c, 0)
	}
}

func (r *run) print(f *frame, in *code.Instruction) {
	r.outs = append(r.outs, f.registers[in.A].number)
}

// calculation is what an op does with two ints.
func calculation(of func(a, b int64) int64) func(*run, *frame, *code.Instruction) {
	return func(_ *run, f *frame, in *code.Instruction) {
		f.registers[in.R] = intOf(of(f.registers[in.A].number, f.registers[in.B].number))
	}
}

// division is a calculation that is none by 0.
func division(of func(a, b int64) int64) func(*run, *frame, *code.Instruction) {
	divided := calculation(of)
	return func(r *run, f *frame, in *code.Instruction) {
		if f.registers[in.B].number == 0 {
			r.throw(outline.Div, 0)
			return
		}
		divided(r, f, in)
	}
}

func comparison(of func(a, b int64) bool) func(*run, *frame, *code.Instruction) {
	return calculation(func(a, b int64) int64 { return truth(of(a, b)).number })
}

func (r *run) branch(f *frame, in *code.Instruction) {
	if f.registers[in.A].number == 0 {
		f.next = in.To
	}
}

func (r *run) jump(f *frame, in *code.Instruction) { f.next = in.To }

func (r *run) switchTo(f *frame, in *code.Instruction) {
	v := f.registers[in.A]
	var fields []value
	if v.kind == reference {
		c, ok := r.touch(v, made, 0)
		if !ok {
			return
		}
		v, fields = r.get(c, 0), r.fields(c, 1)
	}
	if v.number < 0 || v.number >= int64(len(in.Cases)) || len(in.Cases[v.number].Registers) != len(fields) {
		r.fault = api.FStuck
		return
	}
	to := &in.Cases[v.number]
	for i, register := range to.Registers {
		f.registers[register] = fields[i]
	}
	f.next = to.To
}

// begins begins an instance, which the frame owns.
func (r *run) begins(f *frame, in *code.Instruction) {
	instance := r.begin()
	f.Give(in.H, handles.Handle{Instance: instance, Owns: true})
	r.record(api.VNew, instance, 0)
}

// ends takes a handle away, and ends what it owns.
func (r *run) ends(f *frame, in *code.Instruction) {
	h, ok := f.Set[in.H]
	if !ok {
		r.fault = api.FTouch
		return
	}
	f.Drop(in.H)
	if h.Owns {
		r.endInstance(h.Instance)
	}
}

// endInstance ends an instance, if it has not ended.
func (r *run) endInstance(number int) {
	own := &r.instances[number]
	if own.hasEnded {
		return
	}
	r.isLoose = r.isLoose || own.isShared
	words := r.end(number)
	r.record(api.VEnd, number, words)
}
