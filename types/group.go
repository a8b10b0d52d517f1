package types

import (
	"slices"

	"heriot/api"
)

// group is the functions of one declaration, whose types are found together.
type group struct {
	*finder
	solver
	first int // the number of the first one
	funs  []*function
}

// function is a function of a group.
type function struct {
	decl   api.FunDecl
	params []*node
	result *node
	vars   []*node // the variables of its scheme, in their order
	body   *finding
}

// signature is the types of its parameters, and then that of its result.
func (f *function) signature() []*node {
	return append(slices.Clone(f.params), f.result)
}

// functions finds the types of the functions of one declaration.
func (f *finder) functions(list []api.FunDecl) {
	g := &group{finder: f, solver: newSolver(), first: len(f.out.Funs)}
	for _, d := range list {
		f.header(d)
	}
	for i, d := range list {
		g.funs = append(g.funs, g.start(d, f.out.Funs[g.first+i].Scheme))
	}
	for _, own := range g.funs {
		g.body(own)
	}
	for _, own := range g.funs {
		g.checkFree(own)
	}
	for _, own := range g.funs {
		if f.last && own.decl.Name == "main" {
			g.askMain(own)
		}
	}
	for _, own := range g.funs {
		g.generalize(own)
	}
	for i, own := range g.funs {
		g.finish(own, &f.out.Funs[g.first+i])
	}
}

// start gives a function the types that it has ahead of all bodies.
func (g *group) start(d api.FunDecl, s api.Scheme) *function {
	own := &function{decl: d}
	if d.Noted {
		own.vars = g.several(tRigid, s.Vars)
		own.params = g.instances(s.Params, own.vars)
		own.result = g.instance(s.Result, own.vars)
	} else {
		own.params = g.several(tUnknown, len(d.Params))
		own.result = g.fresh()
	}
	return own
}

func (g *group) body(own *function) {
	look := scope[*node](nothing[*node]).bindTo(own.decl.Params, own.params...)
	own.body = g.expression(&own.decl.Body, look)
	g.askAt(own.body.is, own.result, own.decl.Body.At)
}

// checkFree refuses a function into whose types a type variable of another one has come.
func (g *group) checkFree(own *function) {
	if own.decl.Noted {
		return
	}
	for t := range g.parts(own.signature()...) {
		g.require(t.kind != tRigid, api.ErrNote, own.decl.At)
	}
}

func (g *group) askMain(main *function) {
	g.require(len(main.params) <= api.MaxArgs, api.ErrMain, main.decl.At)
	for _, t := range main.signature() {
		e := g.ask(t, g.integer())
		g.require(e == api.OK, api.ErrMain, main.decl.At)
	}
}

// generalize makes the unknown types of a function's types the variables of its scheme.
func (g *group) generalize(own *function) {
	if own.decl.Noted {
		return
	}
	for t := range g.parts(own.signature()...) {
		if t.kind == tUnknown {
			own.vars = append(own.vars, t)
		}
	}
}

// finish writes down what was found of a function.
func (g *group) finish(own *function, out *api.TypedFun) {
	g.require(!g.areTooLarge(own.signature()), api.ErrBig, own.decl.At)
	g.checkSizes(own.body)
	vars := numberOf(own.vars)
	out.Scheme = api.Scheme{Vars: len(own.vars), Params: g.writeAll(own.params, vars), Result: g.write(own.result, vars)}
	out.Body = g.writeBody(own.body, vars)
}

// checkSizes looks at all types again, since they may have grown behind their places.
func (g *group) checkSizes(f *finding) {
	g.require(!g.isTooLarge(f.is) && !g.areTooLarge(f.inst), api.ErrBig, f.expr.At)
	for _, k := range f.kids {
		g.checkSizes(k)
	}
	for _, a := range f.arms {
		g.checkSizes(a)
	}
}

func (g *group) writeBody(f *finding, vars numbers) api.Expr {
	inst := f.inst
	if f.callee != nil {
		inst = f.callee.vars
	}
	out := api.Expr{Kind: f.expr.Kind, At: f.expr.At, Int: f.expr.Int, Name: f.expr.Name}
	out.Type = g.write(f.is, vars)
	out.Inst = g.writeAll(inst, vars)
	for _, k := range f.kids {
		out.Kids = append(out.Kids, g.writeBody(k, vars))
	}
	for i, a := range f.arms {
		arm := f.expr.Arms[i]
		out.Arms = append(out.Arms, api.Arm{Name: arm.Name, Vars: slices.Clone(arm.Vars), Body: g.writeBody(a, vars)})
	}
	return out
}
