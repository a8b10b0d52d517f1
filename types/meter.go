package types

import "heriot/api"

// meter counts the nodes of a program, and sees whether it is beyond a limit. Behind a limit it enters nothing.
type meter struct {
	nodes int
	big   bool
}

// enter counts what stands at a depth, and tells whether its parts have to be looked at.
func (m *meter) enter(nodes, depth int) bool {
	m.nodes += nodes
	m.big = m.big || m.nodes > api.MaxNodes || depth > api.MaxDepth
	return !m.big
}

// written counts a type that a declaration has.
func (m *meter) written(t api.Type) { m.oneType(t, 1, 1) }

// oneType looks at a type each of whose parts counts as so many nodes.
func (m *meter) oneType(t api.Type, nodes, depth int) {
	if !m.enter(nodes, depth) {
		return
	}
	for _, a := range t.Args {
		m.oneType(a, nodes, depth+1)
	}
}

// expression counts the expressions and arms of a body. The types that its expressions have been given only have to be nested as a type may be.
func (m *meter) expression(e api.Expr, depth int) {
	if !m.enter(1, depth) {
		return
	}
	m.oneType(e.Type, 0, 1)
	for _, t := range e.Inst {
		m.oneType(t, 0, 1)
	}
	for _, k := range e.Kids {
		m.expression(k, depth+1)
	}
	for _, a := range e.Arms {
		m.enter(1, depth)
		m.expression(a.Body, depth+1)
	}
}

func (m *meter) data(d api.Data) {
	for _, c := range d.Cons {
		for _, t := range c.Fields {
			m.written(t)
		}
	}
}

// areTooMany tells whether units have too many nodes together.
func areTooMany(units []api.Unit) bool {
	var m meter
	for _, u := range units {
		for _, d := range u.Decls {
			m.data(d.Data)
			for _, f := range d.Funs {
				m.function(f)
			}
		}
	}
	return m.big
}

func (m *meter) function(f api.FunDecl) {
	if f.Noted {
		for _, t := range f.Types {
			m.written(t)
		}
		m.written(f.Result)
	}
	m.expression(f.Body, 1)
}

// isBig tells whether a program with its types has too many nodes or names, or is nested too deep.
func isBig(t api.Typed) bool {
	var m meter
	names := len(t.Datas) + len(t.Exns) + len(t.Funs)
	for _, d := range t.Datas {
		names += len(d.Vars) + len(d.Cons)
		m.data(d)
	}
	for _, f := range t.Funs {
		names += len(f.Params)
		for _, p := range f.Scheme.Params {
			m.written(p)
		}
		m.written(f.Scheme.Result)
		m.expression(f.Body, 1)
	}
	return m.big || names > api.MaxNodes
}
