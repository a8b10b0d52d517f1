package types

import (
	"slices"

	"heriot/api"
)

// finding is an expression whose type is being found.
type finding struct {
	expr   *api.Expr
	is     *node
	inst   []*node
	callee *function // whose variables the call's Inst are: they are not known ahead of all bodies
	kids   []*finding
	arms   []*finding
}

func (g *group) askAt(a, b *node, at int) {
	e := g.ask(a, b)
	g.require(e == api.OK, e, at)
}

func (g *group) expression(e *api.Expr, look scope[*node]) *finding {
	f := &finding{expr: e}
	f.is = g.typeOf(f, look)
	g.require(!g.isTooLarge(f.is), api.ErrBig, e.At)
	return f
}

// typeOf gives the type of an expression, all of whose parts it goes through.
func (g *group) typeOf(f *finding, look scope[*node]) *node {
	e := f.expr
	switch e.Kind {
	case api.EName:
		v, ok := look(e.Name)
		g.require(ok, api.ErrUnknown, e.At)
		return g.instance(v.of, v.put)
	case api.ECall:
		return g.call(f, look)
	case api.EMake:
		con, ok := g.sees(aCon, e.Name)
		g.require(ok, api.ErrUnknown, e.At)
		return g.use(f, conRule(g.out.Datas, con), look)
	case api.EGet:
		return g.get(f, look)
	case api.ELet:
		bound := g.kid(f, look)
		return g.kid(f, look.bindTo([]string{e.Name}, bound))
	case api.ECase:
		return g.cases(f, look)
	case api.EFn:
		param := g.fresh()
		return g.node(api.TArrow, 0, param, g.kid(f, look.bindTo([]string{e.Name}, param)))
	case api.EApply:
		closure := g.kid(f, look)
		arrow := g.node(api.TArrow, 0, g.kid(f, look), g.fresh())
		g.askAt(closure, arrow, e.At)
		return arrow.args[1]
	case api.EHandle:
		return g.handle(f, look)
	case api.ERaise:
		_, ok := g.sees(anExn, e.Name)
		g.require(ok, api.ErrUnknown, e.At)
	}
	rule, _ := ruleOf(*e)
	put := g.several(tUnknown, rule.Vars)
	return g.take(f, g.instances(rule.Params, put), g.instance(rule.Result, put), look)
}

// kid goes through the next kid, and gives its type.
func (g *group) kid(f *finding, look scope[*node]) *node {
	kid := g.expression(&f.expr.Kids[len(f.kids)], look)
	f.kids = append(f.kids, kid)
	return kid.is
}

// take asks all kids to be what is taken, and gives the result.
func (g *group) take(f *finding, params []*node, result *node, look scope[*node]) *node {
	for i, p := range params {
		g.askAt(g.kid(f, look), p, f.expr.Kids[i].At)
	}
	return result
}

// use is a known call, or a constructor, of a scheme.
func (g *group) use(f *finding, s api.Scheme, look scope[*node]) *node {
	g.require(len(f.expr.Kids) == len(s.Params), api.ErrCount, f.expr.At)
	f.inst = g.several(tUnknown, s.Vars)
	return g.take(f, g.instances(s.Params, f.inst), g.instance(s.Result, f.inst), look)
}

func (g *group) call(f *finding, look scope[*node]) *node {
	fun, ok := g.sees(aFun, f.expr.Name)
	g.require(ok, api.ErrUnknown, f.expr.At)
	if fun.number < g.first || g.funs[fun.number-g.first].decl.Noted {
		return g.use(f, g.out.Funs[fun.number].Scheme, look)
	}
	f.callee = g.funs[fun.number-g.first]
	g.require(len(f.expr.Kids) == len(f.callee.params), api.ErrCount, f.expr.At)
	return g.take(f, f.callee.params, f.callee.result, look)
}

func (g *group) get(f *finding, look scope[*node]) *node {
	tuple := g.now(g.kid(f, look))
	known := tuple.kind == api.TTuple && f.expr.Int < int64(len(tuple.args))
	g.require(known, api.ErrMismatch, f.expr.Kids[0].At)
	return tuple.args[f.expr.Int]
}

func (g *group) cases(f *finding, look scope[*node]) *node {
	e := f.expr
	value := g.kid(f, look)
	first, ok := g.sees(aCon, e.Arms[0].Name)
	g.require(ok, api.ErrUnknown, e.Arms[0].Body.At)
	data := g.out.Datas[first.number]
	put := g.several(tUnknown, len(data.Vars))
	g.askAt(value, g.node(api.TData, first.number, put...), e.Kids[0].At)
	done := make([]bool, len(data.Cons))
	for i := range e.Arms {
		arm := &e.Arms[i]
		con, ok := g.sees(aCon, arm.Name)
		ok = ok && con.number == first.number && !done[con.con]
		g.require(ok, api.ErrArms, arm.Body.At)
		done[con.con] = true
		fields := data.Cons[con.con].Fields
		g.require(len(arm.Vars) == len(fields), api.ErrCount, arm.Body.At)
		g.require(areDifferent(arm.Vars), api.ErrTwice, arm.Body.At)
		body := g.arm(f, i, look.bind(arm.Vars, fields, put))
		g.askAt(body, f.arms[0].is, arm.Body.At)
	}
	g.require(!slices.Contains(done, false), api.ErrArms, e.At)
	return f.arms[0].is
}

// arm goes through the body of an arm, and gives its type.
func (g *group) arm(f *finding, i int, look scope[*node]) *node {
	body := g.expression(&f.expr.Arms[i].Body, look)
	f.arms = append(f.arms, body)
	return body.is
}

func (g *group) handle(f *finding, look scope[*node]) *node {
	value := g.kid(f, look)
	ahead := map[string]bool{}
	for i := range f.expr.Arms {
		arm := &f.expr.Arms[i]
		_, ok := g.sees(anExn, arm.Name)
		g.require(ok, api.ErrUnknown, arm.Body.At)
		g.require(!ahead[arm.Name], api.ErrArms, arm.Body.At)
		ahead[arm.Name] = true
		body := g.arm(f, i, look.bindTo(arm.Vars, g.integer()))
		g.askAt(body, value, arm.Body.At)
	}
	return value
}
