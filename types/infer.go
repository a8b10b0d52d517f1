package types

import (
	"slices"

	"heriot/api"
	"heriot/words"
)

// finder goes through the units of a program. An error ends it by a panic with the refusal.
type finder struct {
	names
	out  api.Typed
	unit int          // the unit that is gone through
	uses map[int]bool // the units that it uses
	last bool         // whether it is the last one
}

func (f *finder) require(ok bool, e api.Errno, at int) {
	if !ok {
		panic(api.Refusal{E: e, Unit: f.unit, At: at})
	}
}

func find(units []api.Unit) api.Typed {
	f := &finder{names: names{}}
	f.require(len(units) <= api.MaxUnits, api.ErrBig, 0)
	for i, u := range units {
		f.unit = i
		e := words.Valid(u)
		f.require(e == api.OK, e, 0)
	}
	f.unit = 0
	f.require(!areTooMany(units), api.ErrBig, 0)
	f.require(len(units) > 0, api.ErrMain, 0)
	for i, exn := range builtIn {
		f.declare(anExn, exn, place{unit: everywhere, number: i})
		f.out.Exns = append(f.out.Exns, exn)
	}
	for i, u := range units {
		f.unit, f.last = i, i == len(units)-1
		f.oneUnit(u)
	}
	main, ok := f.declared(aFun, "main")
	f.require(ok && main.unit == f.unit, api.ErrMain, 0)
	f.out.Main = main.number
	f.unit = 0
	f.require(!isBig(f.out), api.ErrBig, 0)
	return f.out
}

func (f *finder) oneUnit(u api.Unit) {
	f.uses = map[int]bool{}
	free := f.declare(aUnit, u.Name, place{number: f.unit})
	f.require(free, api.ErrUse, 0)
	for _, name := range u.Uses {
		used, ok := f.declared(aUnit, name)
		f.require(ok && used.number != f.unit && !f.uses[used.number], api.ErrUse, 0)
		f.uses[used.number] = true
	}
	for _, d := range u.Decls {
		switch d.Kind {
		case api.DData:
			f.data(d.Data, d.At)
		case api.DExn:
			free := f.declare(anExn, d.Exn, place{unit: f.unit, number: len(f.out.Exns)})
			f.require(free, api.ErrTwice, d.At)
			f.out.Exns = append(f.out.Exns, d.Exn)
		case api.DFuns:
			f.functions(d.Funs)
		}
	}
}

// sees finds what is declared by a name, if the unit sees it here.
func (f *finder) sees(kind int, text string) (place, bool) {
	at, ok := f.declared(kind, text)
	return at, ok && (at.unit == everywhere || at.unit == f.unit || f.uses[at.unit])
}

func (f *finder) data(d api.Data, at int) {
	number := len(f.out.Datas)
	free := f.declare(aData, d.Name, place{unit: f.unit, number: number})
	f.require(free && areDifferent(d.Vars), api.ErrTwice, at)
	f.out.Datas = append(f.out.Datas, api.Data{Name: d.Name, Vars: slices.Clone(d.Vars)})
	reader := typeReader{finder: f, vars: map[string]int{}, at: at}
	for i, v := range d.Vars {
		reader.vars[v] = i
	}
	for i, c := range d.Cons {
		free := f.declare(aCon, c.Name, place{unit: f.unit, number: number, con: i})
		f.require(free, api.ErrTwice, at)
		con := api.Con{Name: c.Name, Fields: reader.readAll(c.Fields)}
		f.out.Datas[number].Cons = append(f.out.Datas[number].Cons, con)
	}
}

// typeReader gives the types of a declaration by numbers.
type typeReader struct {
	*finder
	vars map[string]int
	open bool // whether a new name is a new type variable
	at   int  // where errors stand
}

func (r *typeReader) read(t api.Type) api.Type {
	out := api.Type{Kind: t.Kind}
	switch t.Kind {
	case api.TVar:
		out.N = r.variable(t.Name)
	case api.TData:
		data, ok := r.sees(aData, t.Name)
		r.require(ok, api.ErrUnknown, r.at)
		r.require(len(t.Args) == len(r.out.Datas[data.number].Vars), api.ErrCount, r.at)
		out.N = data.number
	}
	out.Args = r.readAll(t.Args)
	return out
}

func (r *typeReader) readAll(list []api.Type) []api.Type {
	var out []api.Type
	for _, t := range list {
		out = append(out, r.read(t))
	}
	return out
}

func (r *typeReader) variable(name string) int {
	n, ok := r.vars[name]
	if !ok {
		r.require(r.open, api.ErrUnknown, r.at)
		n = len(r.vars)
		r.vars[name] = n
	}
	return n
}

// header goes through a function, but for its body.
func (f *finder) header(d api.FunDecl) {
	free := f.declare(aFun, d.Name, place{unit: f.unit, number: len(f.out.Funs)})
	f.require(free && areDifferent(d.Params), api.ErrTwice, d.At)
	fun := api.TypedFun{Name: d.Name, Unit: f.unit, Params: slices.Clone(d.Params)}
	if d.Noted {
		reader := typeReader{finder: f, vars: map[string]int{}, open: true, at: d.At}
		fun.Scheme.Params = reader.readAll(d.Types)
		fun.Scheme.Result = reader.read(d.Result)
		fun.Scheme.Vars = len(reader.vars)
	}
	f.out.Funs = append(f.out.Funs, fun)
}
