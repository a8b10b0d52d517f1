package machine

import (
	"heriot/api"
	"heriot/code"
	"heriot/handles"
	"heriot/outline"
	"heriot/stack"
	"heriot/store"
)

// run is what a run of an image has done so far.
type run struct {
	memory
	image      *code.Image
	operations []operation
	frames     stack.Of[*frame] // those that are needed, the innermost last
	depth      int              // how many these were at most
	isLoose    bool             // an instance has ended that a waiting frame may own as well
	hasBegun   bool
	fuel       int
	ticks      int
	outs       []int64
	answer     int64
	fault      int
	exn        int
	payload    int64
	events     []api.Event
	cut        cut
}

// cut is where a run stops that is looked at as it was at one of its events.
type cut struct {
	isAsked bool
	isDone  bool // there was an event behind, so that the run goes no further
	events  int  // how many events are kept
	outs    int  // how many outputs there were by then
	ticks   int
}

// frame is a call that is going on, or that waits for the one it has begun. It has its handles' methods.
type frame struct {
	handles.Set
	fun       *code.Function
	list      []code.Instruction
	next      int
	registers []value
	tries     stack.Of[*code.Instruction] // those that are open
}

// doing is the number of the instruction that a frame is doing.
func (f *frame) doing() int { return f.next - 1 }

// begin begins a run of an image, if the bytes are one. With the wrong number of args the run is over.
func begin(image []byte, args []int64, fuel int) (*run, bool) {
	m, ok := code.ReadImage(image)
	if !ok {
		return nil, false
	}
	r := &run{memory: memory{store: store.New()}, image: m, operations: operations(), fuel: min(max(fuel, 0), api.MaxFuel)}
	main := &m.Funs[m.Main]
	if len(args) != main.Params {
		r.fault = api.FStuck
		return r, true
	}
	r.hasBegun = true
	f := newFrame(main, 0)
	for i, n := range args {
		f.registers[i] = intOf(n)
	}
	r.enter(f)
	return r, true
}

func newFrame(fun *code.Function, number int) *frame {
	return &frame{fun: fun, list: fun.Codes[number], registers: make([]value, fun.Registers)}
}

// goOn does instructions until nothing is left to be done, or nothing more is asked for.
func (r *run) goOn() {
	for r.fault == api.FNone && len(r.frames) > 0 && !r.cut.isDone {
		f := *r.frames.Top()
		in := &f.list[f.next]
		f.next++
		r.step(f, in)
	}
}

// step does an instruction, which reads its registers ahead of all else.
func (r *run) step(f *frame, in *code.Instruction) {
	own := &r.operations[in.Op]
	if !f.hasAll(in, own.reads) {
		r.fault = api.FStuck
		return
	}
	own.does(r, f, in)
}

// whole is what the run comes to.
func (r *run) whole() api.Run {
	out := metered(r.events)
	out.Result = api.Result{Outs: r.outs, Fault: r.fault, Ticks: r.ticks}
	switch r.fault {
	case api.FNone:
		out.Result.Answer = r.answer
	case api.FExn:
		out.Result.Exn, out.Result.Payload = r.exnName(), r.payload
	}
	return out
}

// stopAt asks for the run up to an event alone.
func (r *run) stopAt(events int) { r.cut = cut{isAsked: true, events: events} }

// beginning is the run as it was at the event that was asked for.
func (r *run) beginning() api.Run {
	out := metered(r.events[:r.cut.events])
	out.Result = api.Result{Outs: r.outs[:r.cut.outs], Ticks: r.cut.ticks}
	return out
}

// metered is what events say of a run.
func metered(events []api.Event) api.Run {
	out := api.Run{Events: events}
	for _, e := range events {
		out.Peak = max(out.Peak, e.Held)
		out.Left = e.Held
	}
	return out
}

// exnName is the text of the exception by which the run ended.
func (r *run) exnName() string {
	own := [...]string{outline.Div: "Div", outline.Index: "Index", outline.Size: "Size"}
	if r.exn < len(own) {
		return own[r.exn]
	}
	for _, e := range r.image.Exns {
		if e.Number == r.exn {
			return e.Name
		}
	}
	return ""
}

// record notes an event that has been.
func (r *run) record(kind, instance, words int) {
	if r.cut.isAsked && len(r.events) == r.cut.events {
		r.cut.isDone = true
		return
	}
	r.events = append(r.events, api.Event{Kind: kind, Region: instance, Words: words, Held: r.store.Words()})
	if len(r.events) == r.cut.events {
		r.cut.outs, r.cut.ticks = len(r.outs), r.ticks
	}
}

// spend tells whether there is fuel for some ticks, and spends them.
func (r *run) spend(ticks int) bool {
	if r.ticks+ticks > r.fuel {
		r.ticks, r.fault = r.fuel, api.FFuel
		return false
	}
	r.ticks += ticks
	return true
}
