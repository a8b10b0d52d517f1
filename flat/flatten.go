package flat

import (
	"slices"

	"heriot/api"
	"heriot/outline"
	"heriot/stack"
)

// Beyond these bounds nothing is promised: the document's are 2^31 - 1 bytes in all, and 2^16 levels. They end the writing of trees that have themselves as a part.
const (
	mostVisits = 1 << 24
	deepest    = 1 << 17
)

// writer writes a program in steps. What is too big it goes through to its end, since an expression that can't be written is found first, but it writes no more of it.
type writer struct {
	*api.Typed
	outline.Meter
	funs   map[string]int
	exns   map[string]int
	cons   []map[string]int          // for each data type
	names  map[string]*stack.Of[int] // the variables that a name stands for, the innermost last
	next   int                       // the next variable
	depth  int                       // of the blocks that are being written
	steps  []api.Step                // of the innermost of them
	visits int
	levels int
}

func flatten(t *api.Typed) api.Program {
	w := &writer{Typed: t, Meter: outline.NewMeter(api.MaxNodes), exns: numbered(t.Exns)}
	p := api.Program{Datas: w.datas(), Exns: slices.Clone(t.Exns), Main: t.Main}
	var names []string
	for i := range t.Funs {
		names = append(names, t.Funs[i].Name)
	}
	w.funs = numbered(names)
	for i := range t.Funs {
		p.Funs = append(p.Funs, w.function(&t.Funs[i]))
	}
	if w.IsBig() {
		panic(api.ErrBig)
	}
	return p
}

// numbered says the number of each name in a list: the first one, where it stands there twice.
func numbered(list []string) map[string]int {
	out := map[string]int{}
	for i, name := range list {
		if _, ahead := out[name]; !ahead {
			out[name] = i
		}
	}
	return out
}

func (w *writer) datas() []api.Data {
	var out []api.Data
	for _, d := range w.Datas {
		own := api.Data{Name: d.Name, Vars: slices.Clone(d.Vars)}
		var names []string
		for _, c := range d.Cons {
			names = append(names, c.Name)
			own.Cons = append(own.Cons, api.Con{Name: c.Name, Fields: w.copies(c.Fields)})
		}
		w.cons = append(w.cons, numbered(names))
		out = append(out, own)
	}
	return out
}

func (w *writer) copies(list []api.Type) []api.Type {
	var out []api.Type
	for i := range list {
		out = append(out, w.copyOf(&list[i], 1))
	}
	return out
}

// copyOf copies a type, as far as it is not too big.
func (w *writer) copyOf(t *api.Type, depth int) api.Type {
	out := *t
	out.Args = nil
	out.Effect = api.Effect{Regions: slices.Clone(t.Effect.Regions), Vars: slices.Clone(t.Effect.Vars)}
	if !w.Enter(1, depth) {
		return out
	}
	for i := range t.Args {
		out.Args = append(out.Args, w.copyOf(&t.Args[i], depth+1))
	}
	return out
}

func (w *writer) function(f *api.TypedFun) api.Fun {
	require(len(f.Params) == len(f.Scheme.Params))
	w.Enter(1, 1)
	out := api.Fun{Name: f.Name, Unit: f.Unit, Types: f.Scheme.Vars, Params: w.copies(f.Scheme.Params), Result: w.copyOf(&f.Scheme.Result, 1)}
	w.names, w.next = map[string]*stack.Of[int]{}, 0
	w.bind(f.Params)
	out.Body = w.block(&f.Body)
	return out
}

// bind gives new variables to names, and those variables.
func (w *writer) bind(names []string) []int {
	var out []int
	for _, name := range names {
		out = append(out, w.fresh())
		w.open(name, w.next-1)
	}
	return out
}

func (w *writer) fresh() int {
	w.next++
	return w.next - 1
}

// open makes a name stand for a variable, up to the next close of that name.
func (w *writer) open(name string, variable int) {
	if w.names[name] == nil {
		w.names[name] = &stack.Of[int]{}
	}
	w.names[name].Push(variable)
}

func (w *writer) close(name string) { w.names[name].Pop() }

func (w *writer) variable(name string) int {
	found := w.names[name]
	require(found != nil && len(*found) > 0)
	return *found.Top()
}

// block writes the block of an expression, in which some names are bound at its begin.
func (w *writer) block(e *api.Expr, names ...string) api.Block {
	w.depth++
	w.Enter(1, w.depth)
	around := w.steps
	w.steps = nil
	b := api.Block{Bind: w.bind(names)}
	b.Value = w.expression(e)
	b.Steps = w.steps
	w.steps = around
	for _, name := range names {
		w.close(name)
	}
	w.depth--
	return b
}
