package steps_test

import (
	"maps"
	"slices"

	"heriot/api"
)

// teller tells what a region program's run is, as the chapter says it: with a map of the variables that are in scope, with Go's own calls, and with panics for what ends a block. Run and Frames are held against it.
type teller struct {
	api.Program
	fuel, ticks int
	outs        []int64
	words       []int // of each instance
	ended       []bool
	events      []api.Event
	frames      []*told
	looks       [][]api.Frame // the frames behind each event
	looking     bool
}

// told is a frame; the path is that of the step that it does.
type told struct {
	fun     int
	path    []int
	handles map[int]held
	args    map[int]any
}

type held struct {
	instance int
	owns     bool
}

type (
	thrown struct {
		exn     int
		payload int64
	}
	fault struct{ kind int }
)

// Values are int64, bool, nil for unit, and pointers to these.
type (
	built struct {
		con      int
		fields   []any
		instance int
	}
	holder struct { // a tuple, a ref or an array
		parts    []any
		instance int
	}
	taker struct {
		fun      int
		path     []int
		body     api.Block
		env      map[int]any
		handles  map[int]held
		instance int
	}
)

// tell is a run of a program that can be run; and, if one looks, the frames behind each event.
func tell(p api.Program, args []int64, fuel int, looking bool) (api.Run, [][]api.Frame) {
	o := &teller{Program: p, fuel: min(max(0, fuel), api.MaxFuel), looking: looking}
	out := api.Run{Result: o.whole(args)}
	for _, e := range o.events {
		out.Peak = max(out.Peak, e.Held)
		out.Left = e.Held
	}
	out.Events = o.events
	return out, o.looks
}

func (o *teller) whole(args []int64) (out api.Result) {
	defer func() {
		out.Outs, out.Ticks = o.outs, o.ticks
		switch r := recover().(type) {
		case nil:
		case thrown:
			out.Fault, out.Exn, out.Payload = api.FExn, o.Exns[r.exn], r.payload
		case fault:
			out.Fault = r.kind
			if r.kind == api.FFuel {
				out.Ticks = o.fuel
			}
		default:
			panic(r)
		}
	}()
	env := map[int]any{}
	for i, n := range args {
		env[i] = n
	}
	out.Answer = o.call(&told{fun: o.Main, handles: map[int]held{}, args: env}, o.Funs[o.Main].Body).(int64)
	return out
}

func (o *teller) event(kind, instance, words int) {
	sum := 0
	for i, w := range o.words {
		if !o.ended[i] {
			sum += w
		}
	}
	o.events = append(o.events, api.Event{Kind: kind, Region: instance, Words: words, Held: sum})
	if o.looking {
		o.looks = append(o.looks, o.look())
	}
}

// look is the frames as they are.
func (o *teller) look() []api.Frame {
	var out []api.Frame
	for _, f := range o.frames {
		own := api.Frame{Fun: f.fun, Path: slices.Clone(f.path)}
		for r, h := range f.handles {
			if h.owns {
				at, _ := slices.BinarySearch(own.Instances, h.instance)
				own.Regions, own.Instances = slices.Insert(own.Regions, at, r), slices.Insert(own.Instances, at, h.instance)
			}
		}
		out = append(out, own)
	}
	return out
}

func (o *teller) spend(ticks int) {
	if o.ticks+ticks > o.fuel {
		panic(fault{api.FFuel})
	}
	o.ticks += ticks
}

// call runs a body in a new frame. Where it is left by an exception, what it owns ends.
func (o *teller) call(f *told, body api.Block) any {
	o.frames = append(o.frames, f)
	defer func() {
		r := recover()
		if _, ok := r.(thrown); ok {
			o.leave(f, nil)
		}
		o.frames = o.frames[:len(o.frames)-1]
		if r != nil {
			panic(r)
		}
	}()
	return o.block(f, body, f.args)
}

// leave ends what a frame owns, but for some regions.
func (o *teller) leave(f *told, keep []int) {
	for i := len(o.words) - 1; i >= 0; i-- {
		for _, r := range slices.Sorted(maps.Keys(f.handles)) {
			if h := f.handles[r]; h.owns && h.instance == i && !slices.Contains(keep, r) {
				delete(f.handles, r)
				o.end(i)
			}
		}
	}
}

func (o *teller) end(i int) {
	if !o.ended[i] {
		o.ended[i] = true
		o.event(api.VEnd, i, o.words[i])
	}
}

func (o *teller) block(f *told, b api.Block, around map[int]any, binds ...any) any {
	env := maps.Clone(around)
	for i, v := range binds {
		env[b.Bind[i]] = v
	}
	f.path = append(f.path, 0)
	at := len(f.path) - 1
	for i, s := range b.Steps {
		f.path = append(f.path[:at], i)
		v := o.step(f, s, env)
		if s.Out >= 0 {
			env[s.Out] = v
		}
	}
	f.path = f.path[:at]
	return env[b.Value]
}

// inner runs a block of a step.
func (o *teller) inner(f *told, s api.Step, which int, env map[int]any, binds ...any) any {
	f.path = append(f.path, which)
	v := o.block(f, s.Blocks[which], env, binds...)
	f.path = f.path[:len(f.path)-1]
	return v
}

func (o *teller) handle(f *told, s api.Step, env map[int]any) any {
	value, arm := o.attempt(f, s, env)
	return o.inner(f, s, max(arm, 1), env, value)
}

// attempt is the value of a handle's first block, or the payload of an exception and the number of its arm.
func (o *teller) attempt(f *told, s api.Step, env map[int]any) (value any, arm int) {
	depth := len(f.path)
	defer func() {
		r := recover()
		if x, ok := r.(thrown); ok {
			for i, b := range s.Blocks {
				if i >= 2 && b.Code == x.exn {
					o.leave(f, s.Keep)
					f.path = f.path[:depth]
					value, arm = x.payload, i
					return
				}
			}
		}
		if r != nil {
			panic(r)
		}
	}()
	return o.inner(f, s, 0, env), 0
}

// make finds the instance of a new cell.
func (o *teller) make(f *told, s api.Step, words int) int {
	h, ok := f.handles[s.Region]
	if !ok || o.ended[h.instance] {
		panic(fault{api.FTouch})
	}
	o.words[h.instance] += words
	o.event(api.VAlloc, h.instance, words)
	return h.instance
}

func (o *teller) touch(instance int) {
	if o.ended[instance] {
		panic(fault{api.FTouch})
	}
	o.event(api.VTouch, instance, 0)
}

func (o *teller) step(f *told, s api.Step, env map[int]any) any {
	var args []any
	for _, a := range s.Args {
		args = append(args, env[a])
	}
	switch s.Op {
	case api.OInt:
		return s.Int
	case api.OBool:
		return s.Int == 1
	case api.OUnit:
		return nil
	case api.OMake:
		b := &built{con: s.Code, fields: args}
		if len(args) > 0 {
			b.instance = o.make(f, s, 1+len(args))
		}
		return b
	case api.OTuple, api.ORef:
		return &holder{args, o.make(f, s, len(args))}
	case api.OCall:
		return o.known(f, s, args)
	case api.OFn:
		return o.closure(f, s, env)
	case api.OApply:
		c := args[0].(*taker)
		o.touch(c.instance)
		o.spend(1)
		env := maps.Clone(c.env)
		env[c.body.Bind[0]] = args[1]
		return o.call(&told{c.fun, slices.Clone(c.path), maps.Clone(c.handles), env}, c.body)
	case api.OHandle:
		return o.handle(f, s, env)
	case api.OIf:
		if args[0].(bool) {
			return o.inner(f, s, 0, env)
		}
		return o.inner(f, s, 1, env)
	case api.OCase:
		v := args[0].(*built)
		if len(v.fields) > 0 {
			o.touch(v.instance)
		}
		return o.inner(f, s, v.con, env, v.fields...)
	case api.ONew, api.OEnd:
		o.region(f, s)
		return nil
	case api.OArray:
		return o.array(f, s, args)
	}
	return o.other(s, args)
}

func (o *teller) region(f *told, s api.Step) {
	if s.Op == api.ONew {
		f.handles[s.Region] = held{len(o.words), true}
		o.words, o.ended = append(o.words, 0), append(o.ended, false)
		o.event(api.VNew, len(o.words)-1, 0)
		return
	}
	h, ok := f.handles[s.Region]
	if !ok {
		panic(fault{api.FTouch})
	}
	delete(f.handles, s.Region)
	if h.owns {
		o.end(h.instance)
	}
}

func (o *teller) known(f *told, s api.Step, args []any) any {
	callee := o.Funs[s.Code]
	own := &told{fun: s.Code, handles: map[int]held{}, args: map[int]any{}}
	for k, formal := range callee.Touch.Regions {
		h, ok := f.handles[s.Regions[formal]]
		if !ok {
			panic(fault{api.FTouch})
		}
		own.handles[formal] = held{h.instance, h.owns && s.Modes[k] == api.Last}
	}
	o.spend(1)
	for k, formal := range callee.Touch.Regions {
		if s.Modes[k] == api.Last {
			delete(f.handles, s.Regions[formal])
		}
	}
	for i, a := range args {
		own.args[i] = a
	}
	return o.call(own, callee.Body)
}

// closure captures what its block uses of what is around, and handles.
func (o *teller) closure(f *told, s api.Step, env map[int]any) any {
	used, named, begun := map[int]bool{}, map[int]bool{}, map[int]bool{}
	var look func(b api.Block)
	look = func(b api.Block) {
		used[b.Value] = true
		for _, s := range b.Steps {
			for _, a := range s.Args {
				used[a] = true
			}
			if isMaking(s) {
				named[s.Region] = true
			}
			if s.Op == api.OCall {
				for _, formal := range o.Funs[s.Code].Touch.Regions {
					named[s.Regions[formal]] = true
				}
			}
			if s.Op == api.ONew {
				begun[s.Region] = true
			}
			for _, b := range s.Blocks {
				look(b)
			}
		}
	}
	look(s.Blocks[0])
	c := &taker{fun: f.fun, path: append(slices.Clone(f.path), 0), body: s.Blocks[0], env: map[int]any{}, handles: map[int]held{}}
	words := 1
	for v := range used {
		if value, ok := env[v]; ok {
			c.env[v] = value
			words++
		}
	}
	for r := range named {
		if begun[r] {
			continue
		}
		words++
		if h, ok := f.handles[r]; ok {
			c.handles[r] = held{instance: h.instance}
		}
	}
	c.instance = o.make(f, s, words)
	return c
}

func (o *teller) array(f *told, s api.Step, args []any) any {
	n := args[0].(int64)
	if n < 0 || n > api.MaxArray {
		panic(thrown{2, n})
	}
	o.spend(int(n))
	h := &holder{instance: o.make(f, s, 1+int(n))}
	for range n {
		h.parts = append(h.parts, args[1])
	}
	return h
}

func (o *teller) other(s api.Step, args []any) any {
	h, ok := args[0].(*holder)
	if ok {
		o.touch(h.instance)
	}
	switch s.Op {
	case api.OGet:
		return h.parts[s.Int]
	case api.ODeref:
		return h.parts[0]
	case api.OSet:
		h.parts[0] = args[1]
		return nil
	case api.OAt:
		return *h.element(args)
	case api.OPut:
		*h.element(args) = args[2]
		return nil
	case api.OLen:
		return int64(len(h.parts))
	case api.ORaise:
		panic(thrown{s.Code, args[0].(int64)})
	case api.OPrint:
		o.outs = append(o.outs, args[0].(int64))
		return nil
	}
	return numeric(s.Op, args[0].(int64), args[1].(int64))
}

func (h *holder) element(args []any) *any {
	i := args[1].(int64)
	if i < 0 || i >= int64(len(h.parts)) {
		panic(thrown{1, i})
	}
	return &h.parts[i]
}

func numeric(op int, a, b int64) any {
	if b == 0 && (op == api.ODiv || op == api.OMod) {
		panic(thrown{0, 0})
	}
	switch op {
	case api.OAdd:
		return a + b
	case api.OSub:
		return a - b
	case api.OMul:
		return a * b
	case api.ODiv:
		return a / b
	case api.OMod:
		return a % b
	case api.OEq:
		return a == b
	}
	return a < b
}
