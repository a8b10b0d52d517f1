package plain

import "heriot/api"

// code is an expression that is ready to be evaluated.
type code func(r *run, s *scope) value

// function is a function whose body is made when those that call it may be ready already.
type function struct{ body code }

// program is a program while its expressions are made ready.
type program struct {
	funs map[string]*function
	cons map[string]int // the numbers of constructors in their data types
}

// mainOf makes a program ready, and gives its main.
func mainOf(typed api.Typed) *function {
	p := program{funs: map[string]*function{}, cons: map[string]int{}}
	for _, d := range typed.Datas {
		for i, c := range d.Cons {
			p.cons[c.Name] = i
		}
	}
	for _, f := range typed.Funs {
		p.funs[f.Name] = &function{}
	}
	var outside *names
	for i := range typed.Funs {
		f := &typed.Funs[i]
		p.funs[f.Name].body = p.expression(&f.Body, outside.bind(f.Params...))
	}
	return p.funs["main"]
}

// expression makes an expression ready in the scope of some names.
func (p program) expression(e *api.Expr, look *names) code {
	switch e.Kind {
	case api.EInt:
		return literal(number(e.Int))
	case api.EBool:
		return literal(truth(e.Int == 1))
	case api.EUnit:
		return literal(nothing{})
	case api.EName:
		return variable(look.find(e.Name))
	case api.ECall:
		return call(p.funs[e.Name], p.kids(e, look))
	case api.EMake:
		return making(p.cons[e.Name], p.kids(e, look))
	case api.ETuple:
		return tupling(p.kids(e, look))
	case api.ELet:
		return let(p.expression(&e.Kids[0], look), p.expression(&e.Kids[1], look.bind(e.Name)))
	case api.EIf:
		kids := p.kids(e, look)
		return choice(kids[0], kids[1], kids[2])
	case api.ECase:
		return cases(p.expression(&e.Kids[0], look), p.conArms(e, look))
	case api.EFn:
		return lambda(p.expression(&e.Kids[0], look.bind(e.Name)))
	case api.EHandle:
		return handle(p.expression(&e.Kids[0], look), p.exnArms(e, look))
	}
	return operation(e, p.kids(e, look))
}

func (p program) kids(e *api.Expr, look *names) []code {
	var out []code
	for i := range e.Kids {
		out = append(out, p.expression(&e.Kids[i], look))
	}
	return out
}

// conArms makes the arms of a case ready, by the numbers of their constructors.
func (p program) conArms(e *api.Expr, look *names) []code {
	out := make([]code, len(e.Arms))
	for i := range e.Arms {
		arm := &e.Arms[i]
		out[p.cons[arm.Name]] = p.expression(&arm.Body, look.bind(arm.Vars...))
	}
	return out
}

// exnArms makes the arms of a handle ready, by the names of their exceptions.
func (p program) exnArms(e *api.Expr, look *names) map[string]code {
	out := map[string]code{}
	for i := range e.Arms {
		arm := &e.Arms[i]
		out[arm.Name] = p.expression(&arm.Body, look.bind(arm.Vars...))
	}
	return out
}
