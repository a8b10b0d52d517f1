package types

import (
	"slices"

	"heriot/api"
)

// require ends the verifying by a panic with an error.
func require(ok bool, e api.Errno) {
	if !ok {
		panic(api.Refusal{E: e})
	}
}

func verify(t api.Typed) {
	require(!isBig(t), api.ErrBig)
	v := &verifier{Typed: t, names: names{}}
	v.checkNames()
	v.checkTypes()
	v.checkUnits()
	v.checkMain()
	for i := range t.Funs {
		v.checkBody(&t.Funs[i])
	}
}

// verifier looks at a program with its types.
type verifier struct {
	api.Typed
	names
}

// take requires a name of its kind that is still free.
func (v *verifier) take(kind int, text string, isName bool, at place) {
	require(isName, api.ErrName)
	free := v.declare(kind, text, at)
	require(free, api.ErrTwice)
}

func (v *verifier) checkNames() {
	for i, d := range v.Datas {
		v.take(aData, d.Name, isSmall(d.Name), place{number: i})
		checkList(d.Vars)
		require(len(d.Cons) > 0, api.ErrCount)
		for j, c := range d.Cons {
			v.take(aCon, c.Name, isGreat(c.Name), place{number: i, con: j})
		}
	}
	require(len(v.Exns) >= len(builtIn), api.ErrUnknown)
	for i, exn := range v.Exns {
		own := i >= len(builtIn)
		require(own || exn == builtIn[i], api.ErrUnknown)
		v.take(anExn, exn, !own || isSmall(exn), place{number: i})
	}
	for i, f := range v.Funs {
		v.take(aFun, f.Name, isSmall(f.Name), place{number: i})
		checkList(f.Params)
	}
}

// checkList requires small names, each once.
func checkList(list []string) {
	own := names{}
	for _, s := range list {
		require(isSmall(s), api.ErrName)
		free := own.declare(0, s, place{})
		require(free, api.ErrTwice)
	}
}

func (v *verifier) checkTypes() {
	for i, d := range v.Datas {
		for _, c := range d.Cons {
			// A data type has those ahead of it alone in its fields, and itself.
			v.checkAll(c.Fields, len(d.Vars), i+1)
		}
	}
	for _, f := range v.Funs {
		s := f.Scheme
		require(s.Vars >= 0 && s.Vars <= api.MaxNodes, api.ErrCount)
		require(len(s.Params) == len(f.Params), api.ErrCount)
		v.checkAll(s.Params, s.Vars, len(v.Datas))
		v.checkType(s.Result, s.Vars, len(v.Datas))
	}
}

// checkType requires a type that is well-formed for so many type variables and the first data types.
func (v *verifier) checkType(t api.Type, vars, datas int) {
	require(t.Kind >= api.TInt && t.Kind <= api.TArray && t.Name == "", api.ErrForm)
	require(t.Region == 0 && len(t.Effect.Regions) == 0 && len(t.Effect.Vars) == 0, api.ErrForm)
	switch t.Kind {
	case api.TVar:
		require(t.N >= 0 && t.N < vars, api.ErrUnknown)
	case api.TData:
		require(t.N >= 0 && t.N < datas, api.ErrUnknown)
	default:
		require(t.N == 0, api.ErrForm)
	}
	require(v.takesArgs(t), api.ErrCount)
	v.checkAll(t.Args, vars, datas)
}

func (v *verifier) checkAll(list []api.Type, vars, datas int) {
	for _, t := range list {
		v.checkType(t, vars, datas)
	}
}

// takesArgs tells whether a type has as many parts as its kind, or its data type, has.
func (v *verifier) takesArgs(t api.Type) bool {
	switch t.Kind {
	case api.TData:
		return len(t.Args) == len(v.Datas[t.N].Vars)
	case api.TTuple:
		return len(t.Args) >= 2
	case api.TArrow:
		return len(t.Args) == 2
	case api.TRef, api.TArray:
		return len(t.Args) == 1
	}
	return len(t.Args) == 0
}

func (v *verifier) checkUnits() {
	ahead := 0
	for _, f := range v.Funs {
		require(f.Unit >= ahead && f.Unit < api.MaxUnits, api.ErrUse)
		ahead = f.Unit
	}
}

func (v *verifier) checkMain() {
	require(v.Main >= 0 && v.Main < len(v.Funs), api.ErrMain)
	main := v.Funs[v.Main]
	isInt := func(t api.Type) bool { return t.Kind == api.TInt }
	ints := isInt(main.Scheme.Result)
	for _, t := range main.Scheme.Params {
		ints = ints && isInt(t)
	}
	require(ints && len(main.Params) <= api.MaxArgs && main.Scheme.Vars == 0 && main.Name == "main", api.ErrMain)
}

// has tells whether a type is the one that a view shows. A variable for which nothing is put in yet gets what stands at its place.
func has(w view[*api.Type], t api.Type) bool {
	if w.of.Kind == api.TVar {
		if w.put[w.of.N] == nil {
			w.put[w.of.N] = &t
			return true
		}
		return areSame(*w.put[w.of.N], t)
	}
	if w.of.Kind != t.Kind || w.of.N != t.N || len(w.of.Args) != len(t.Args) {
		return false
	}
	for i, a := range w.of.Args {
		if !has(view[*api.Type]{a, w.put}, t.Args[i]) {
			return false
		}
	}
	return true
}

// areSame tells whether two types are the same as they are written.
func areSame(a, b api.Type) bool {
	if a.Kind != b.Kind || a.N != b.N || len(a.Args) != len(b.Args) {
		return false
	}
	for i := range a.Args {
		if !areSame(a.Args[i], b.Args[i]) {
			return false
		}
	}
	return true
}

// pointers makes types ready to be put in.
func pointers(list []api.Type) []*api.Type {
	var out []*api.Type
	for i := range list {
		out = append(out, &list[i])
	}
	return out
}

// fits tells whether an expression and its kids have the types of a scheme with some types put in.
func fits(e api.Expr, s api.Scheme, put []*api.Type) bool {
	for i, p := range s.Params {
		if !has(view[*api.Type]{p, put}, e.Kids[i].Type) {
			return false
		}
	}
	return has(view[*api.Type]{s.Result, put}, e.Type)
}

// body is the body of a function that is looked at.
type body struct {
	*verifier
	fun *api.TypedFun
}

func (v *verifier) checkBody(f *api.TypedFun) {
	b := body{v, f}
	b.expression(f.Body, scope[*api.Type](nothing[*api.Type]).bindTo(f.Params, pointers(f.Scheme.Params)...))
	require(areSame(f.Body.Type, f.Scheme.Result), api.ErrMismatch)
}

// expression looks at an expression's shape, then at its parts, then at its types.
func (b body) expression(e api.Expr, look scope[*api.Type]) {
	instances := e.Kind == api.ECall || e.Kind == api.EMake
	require(isShaped(e) && (instances || len(e.Inst) == 0), api.ErrForm)
	b.parts(e, look)
	b.checkAll(append([]api.Type{e.Type}, e.Inst...), b.fun.Scheme.Vars, len(b.Datas))
	b.rule(e, look)
}

func (b body) parts(e api.Expr, look scope[*api.Type]) {
	switch e.Kind {
	case api.ELet:
		b.expression(e.Kids[0], look)
		b.expression(e.Kids[1], look.bindTo([]string{e.Name}, &e.Kids[0].Type))
	case api.EFn:
		require(e.Type.Kind == api.TArrow && len(e.Type.Args) == 2, api.ErrMismatch)
		b.expression(e.Kids[0], look.bindTo([]string{e.Name}, &e.Type.Args[0]))
	default:
		for _, k := range e.Kids {
			b.expression(k, look)
		}
	}
	switch e.Kind {
	case api.ECase:
		b.cases(e, look)
	case api.EHandle:
		b.handle(e, look)
	}
}

func (b body) cases(e api.Expr, look scope[*api.Type]) {
	value := e.Kids[0].Type
	require(value.Kind == api.TData, api.ErrMismatch)
	data := b.Datas[value.N]
	done := make([]bool, len(data.Cons))
	var fields [][]api.Type // of each arm
	for _, a := range e.Arms {
		con, ok := b.declared(aCon, a.Name)
		require(ok && con.number == value.N && !done[con.con], api.ErrArms)
		done[con.con] = true
		fields = append(fields, data.Cons[con.con].Fields)
		require(len(a.Vars) == len(data.Cons[con.con].Fields), api.ErrCount)
		require(areDifferent(a.Vars), api.ErrTwice)
	}
	require(!slices.Contains(done, false), api.ErrArms)
	for i, a := range e.Arms {
		b.expression(a.Body, look.bind(a.Vars, fields[i], pointers(value.Args)))
	}
}

func (b body) handle(e api.Expr, look scope[*api.Type]) {
	ahead := map[string]bool{}
	for _, a := range e.Arms {
		_, ok := b.declared(anExn, a.Name)
		require(ok, api.ErrUnknown)
		require(!ahead[a.Name], api.ErrArms)
		ahead[a.Name] = true
	}
	integer := basic(api.TInt)
	for _, a := range e.Arms {
		b.expression(a.Body, look.bindTo(a.Vars, &integer))
	}
}

// rule looks at the types of an expression whose parts are right.
func (b body) rule(e api.Expr, look scope[*api.Type]) {
	switch e.Kind {
	case api.EName:
		v, ok := look(e.Name)
		require(ok, api.ErrUnknown)
		require(has(v, e.Type), api.ErrMismatch)
	case api.ECall:
		fun, ok := b.declared(aFun, e.Name)
		require(ok, api.ErrUnknown)
		require(b.Funs[fun.number].Unit <= b.fun.Unit, api.ErrUse)
		b.use(e, b.Funs[fun.number].Scheme)
	case api.EMake:
		con, ok := b.declared(aCon, e.Name)
		require(ok, api.ErrUnknown)
		b.use(e, conRule(b.Datas, con))
	case api.EGet:
		tuple := e.Kids[0].Type
		require(tuple.Kind == api.TTuple && e.Int < int64(len(tuple.Args)), api.ErrMismatch)
		require(areSame(tuple.Args[e.Int], e.Type), api.ErrMismatch)
	case api.ELet:
		require(areSame(e.Kids[1].Type, e.Type), api.ErrMismatch)
	case api.EFn:
		require(areSame(e.Kids[0].Type, e.Type.Args[1]), api.ErrMismatch)
	case api.EHandle:
		require(areSame(e.Kids[0].Type, e.Type), api.ErrMismatch)
		fallthrough
	case api.ECase:
		for _, a := range e.Arms {
			require(areSame(a.Body.Type, e.Type), api.ErrMismatch)
		}
	case api.ERaise:
		_, ok := b.declared(anExn, e.Name)
		require(ok, api.ErrUnknown)
		fallthrough
	default:
		rule, _ := ruleOf(e)
		require(fits(e, rule, make([]*api.Type, rule.Vars)), api.ErrMismatch)
	}
}

// use looks at a known call, or at a constructor, of a scheme.
func (b body) use(e api.Expr, s api.Scheme) {
	require(len(e.Kids) == len(s.Params) && len(e.Inst) == s.Vars, api.ErrCount)
	require(fits(e, s, pointers(e.Inst)), api.ErrMismatch)
}
