package plain_test

import (
	"maps"

	"heriot/api"
)

// teller tells what a program comes to, as the rules of chapter 3 are written: over the trees, by names, with panics for what ends an evaluation. Run is held against it.
type teller struct {
	funs        map[string]api.FunDecl
	fuel, ticks int
	outs        []int64
}

// thrown is an exception, and noFuel the end of the fuel, as what is panicked with.
type (
	thrown struct {
		name    string
		payload int64
	}
	noFuel struct{}
)

// Values are int64, bool, nil for unit, and these.
type (
	built struct {
		name   string
		fields []any
	}
	cell  struct{ parts []any } // a tuple, a ref or an array
	taker struct {
		e   api.Expr
		env map[string]any
	}
)

// tell is the result of a run of a program whose types are found.
func tell(units []api.Unit, args []int64, fuel int) (out api.Result) {
	o := &teller{funs: map[string]api.FunDecl{}, fuel: min(max(0, fuel), api.MaxFuel)}
	for _, u := range units {
		for _, d := range u.Decls {
			for _, f := range d.Funs {
				o.funs[f.Name] = f
			}
		}
	}
	defer func() {
		out.Outs, out.Ticks = o.outs, o.ticks
		switch p := recover().(type) {
		case nil:
		case thrown:
			out.Fault, out.Exn, out.Payload = api.FExn, p.name, p.payload
		case noFuel:
			out.Fault, out.Ticks = api.FFuel, o.fuel
		default:
			panic(p)
		}
	}()
	env := map[string]any{}
	for i, p := range o.funs["main"].Params {
		env[p] = args[i]
	}
	out.Answer = o.eval(o.funs["main"].Body, env).(int64)
	return out
}

func (o *teller) tick(n int64) {
	if o.ticks+int(n) > o.fuel {
		panic(noFuel{})
	}
	o.ticks += int(n)
}

func with(env map[string]any, names []string, values ...any) map[string]any {
	inner := maps.Clone(env)
	for i, n := range names {
		inner[n] = values[i]
	}
	return inner
}

func (o *teller) eval(e api.Expr, env map[string]any) any {
	switch e.Kind {
	case api.EName:
		return env[e.Name]
	case api.ELet:
		first := o.eval(e.Kids[0], env)
		return o.eval(e.Kids[1], with(env, []string{e.Name}, first))
	case api.EIf:
		if o.eval(e.Kids[0], env).(bool) {
			return o.eval(e.Kids[1], env)
		}
		return o.eval(e.Kids[2], env)
	case api.ECase:
		v := o.eval(e.Kids[0], env).(built)
		for _, a := range e.Arms {
			if a.Name == v.name {
				return o.eval(a.Body, with(env, a.Vars, v.fields...))
			}
		}
	case api.EFn:
		return taker{e, env}
	case api.EHandle:
		return o.handle(e, env)
	}
	var kids []any
	for _, k := range e.Kids {
		v := o.eval(k, env)
		kids = append(kids, v)
	}
	return o.strict(e, kids)
}

func (o *teller) handle(e api.Expr, env map[string]any) (out any) {
	defer func() {
		p := recover()
		if x, ok := p.(thrown); ok {
			for _, a := range e.Arms {
				if a.Name == x.name {
					out = o.eval(a.Body, with(env, a.Vars, x.payload))
					return
				}
			}
		}
		if p != nil {
			panic(p)
		}
	}()
	return o.eval(e.Kids[0], env)
}

// strict is what an expression comes to when all its kids have been evaluated.
func (o *teller) strict(e api.Expr, kids []any) any {
	switch e.Kind {
	case api.EInt:
		return e.Int
	case api.EBool:
		return e.Int == 1
	case api.EUnit:
		return nil
	case api.ECall:
		o.tick(1)
		return o.eval(o.funs[e.Name].Body, with(map[string]any{}, o.funs[e.Name].Params, kids...))
	case api.EApply:
		f := kids[0].(taker)
		o.tick(1)
		return o.eval(f.e.Kids[0], with(f.env, []string{f.e.Name}, kids[1]))
	case api.EMake:
		return built{e.Name, kids}
	case api.ETuple, api.ERef:
		return &cell{kids}
	case api.EGet:
		return kids[0].(*cell).parts[e.Int]
	case api.EDeref:
		return kids[0].(*cell).parts[0]
	case api.ESet:
		kids[0].(*cell).parts[0] = kids[1]
		return nil
	case api.EArray:
		return o.array(kids[0].(int64), kids[1])
	case api.ELen:
		return int64(len(kids[0].(*cell).parts))
	case api.EAt:
		return *element(kids)
	case api.EPut:
		*element(kids) = kids[2]
		return nil
	case api.ERaise:
		panic(thrown{e.Name, kids[0].(int64)})
	case api.EPrint:
		o.outs = append(o.outs, kids[0].(int64))
		return nil
	case api.ESeq:
		return kids[1]
	}
	return calculated(e.Kind, kids[0].(int64), kids[1].(int64))
}

func (o *teller) array(n int64, of any) any {
	if n < 0 || n > api.MaxArray {
		panic(thrown{"Size", n})
	}
	o.tick(n)
	c := &cell{}
	for range n {
		c.parts = append(c.parts, of)
	}
	return c
}

func element(kids []any) *any {
	parts, i := kids[0].(*cell).parts, kids[1].(int64)
	if i < 0 || i >= int64(len(parts)) {
		panic(thrown{"Index", i})
	}
	return &parts[i]
}

func calculated(kind int, a, b int64) any {
	if b == 0 && (kind == api.EDiv || kind == api.EMod) {
		panic(thrown{"Div", 0})
	}
	switch kind {
	case api.EAdd:
		return a + b
	case api.ESub:
		return a - b
	case api.EMul:
		return a * b
	case api.EDiv:
		return a / b
	case api.EMod:
		return a % b
	case api.EEq:
		return a == b
	}
	return a < b
}
