package words_test

import (
	"strings"
	"testing"

	"heriot/api"
	"heriot/words"
)

var (
	x    = api.Expr{Kind: api.EName, Name: "x"}
	bad  = api.Expr{Kind: api.EName, Name: "X"}
	none = api.Expr{Kind: api.ELess + 1}
)

func unitOf(d ...api.Decl) api.Unit { return api.Unit{Name: "m", Decls: d} }

func declOf(f ...api.FunDecl) api.Decl { return api.Decl{Kind: api.DFuns, Funs: f} }

// withBody is a unit with one function f, whose body is an expression: a form there has depth 3.
func withBody(e api.Expr) api.Unit { return unitOf(declOf(api.FunDecl{Name: "f", Body: e})) }

// withResult is a unit with one function f without parameters, whose result is a type: a form there has depth 3.
func withResult(t api.Type) api.Unit {
	return unitOf(declOf(api.FunDecl{Name: "f", Noted: true, Result: t, Body: x}))
}

func form(kind int, kids ...api.Expr) api.Expr { return api.Expr{Kind: kind, Kids: kids} }

func named(kind int, name string, kids ...api.Expr) api.Expr {
	return api.Expr{Kind: kind, Name: name, Kids: kids}
}

func typ(kind int, args ...api.Type) api.Type { return api.Type{Kind: kind, Args: args} }

// nest is an expression in so many forms.
func nest(n int, e api.Expr) api.Expr {
	for range n {
		e = form(api.EPrint, e)
	}
	return e
}

func nestType(n int, t api.Type) api.Type {
	for range n {
		t = typ(api.TRef, t)
	}
	return t
}

func checkValid(t *testing.T, what string, u api.Unit, want api.Errno) {
	t.Helper()
	if e := words.Valid(u); e != want {
		t.Errorf("Valid: %s: %d, not %d", what, e, want)
	}
	text := ""
	if want == api.OK {
		text, _ = spell(u)
	}
	s, e := words.Print(u)
	if e != want || s != text {
		t.Errorf("Print: %s: %q, %d, not %q, %d", what, s, e, text, want)
	}
}

func TestPrintExample(t *testing.T) {
	u := unitOf(declOf(api.FunDecl{Name: "main", Params: []string{"n"}, Body: form(api.EAdd, named(api.EName, "n"), api.Expr{Int: 1})}))
	u.Decls[0].At, u.Decls[0].Funs[0].At, u.Decls[0].Funs[0].Body.At = -5, 1<<40, 7
	if s, e := words.Print(u); s != "(unit m (fun main (n) (+ n 1)))" || e != api.OK {
		t.Errorf("Print: %q, %d", s, e)
	}
}

func TestValidNames(t *testing.T) {
	for _, n := range []string{"", "M", "_", "5", "é", "aé", "a b", "a;", "a(", "a-", "let", "int", "Div", strings.Repeat("a", 33)} {
		exn := unitOf(api.Decl{Kind: api.DExn, Exn: n})
		checkValid(t, "a unit "+n, api.Unit{Name: n}, api.ErrName)
		checkValid(t, "a use "+n, api.Unit{Name: "m", Uses: []string{"l", n}}, api.ErrName)
		checkValid(t, "an exception "+n, exn, api.ErrName)
		checkValid(t, "a function "+n, unitOf(declOf(api.FunDecl{Name: n, Body: x})), api.ErrName)
		checkValid(t, "a parameter "+n, unitOf(declOf(api.FunDecl{Name: "f", Params: []string{"y", n}, Body: x})), api.ErrName)
		noted := api.FunDecl{Name: "f", Params: []string{n}, Noted: true, Types: make([]api.Type, 1), Body: x}
		checkValid(t, "a noted parameter "+n, unitOf(declOf(noted)), api.ErrName)
		checkValid(t, "a variable "+n, withBody(named(api.EName, n)), api.ErrName)
		checkValid(t, "a call of "+n, withBody(named(api.ECall, n)), api.ErrName)
		checkValid(t, "a let of "+n, withBody(named(api.ELet, n, x, x)), api.ErrName)
		checkValid(t, "a fn of "+n, withBody(named(api.EFn, n, x)), api.ErrName)
		checkValid(t, "a type variable "+n, withResult(api.Type{Kind: api.TVar, Name: n}), api.ErrName)
		checkValid(t, "a data type "+n, withResult(api.Type{Kind: api.TData, Name: n}), api.ErrName)
		con := []api.Con{{Name: "C"}}
		checkValid(t, "data "+n, unitOf(api.Decl{Data: api.Data{Name: n, Cons: con}}), api.ErrName)
		checkValid(t, "data of "+n, unitOf(api.Decl{Data: api.Data{Name: "d", Vars: []string{n}, Cons: con}}), api.ErrName)
		if n != "M" && n != "Div" {
			checkValid(t, "a constructor "+n, unitOf(api.Decl{Data: api.Data{Name: "d", Cons: []api.Con{{Name: n}}}}), api.ErrName)
			checkValid(t, "a making of "+n, withBody(named(api.EMake, n)), api.ErrName)
		}
		if n != "Div" {
			checkValid(t, "a raise of "+n, withBody(named(api.ERaise, n, x)), api.ErrName)
		}
		e := form(api.ECase, x)
		e.Arms = []api.Arm{{Name: "C", Vars: []string{n}, Body: x}}
		checkValid(t, "an arm's variable "+n, withBody(e), api.ErrName)
		e.Kind, e.Arms[0].Name = api.EHandle, "Size"
		checkValid(t, "a payload "+n, withBody(e), api.ErrName)
		e.Arms[0].Vars[0], e.Arms[0].Name = "v", "a"
		checkValid(t, "a handler", withBody(e), api.OK)
		e.Arms[0].Name = "Sizes"
		checkValid(t, "a handler of a great name", withBody(e), api.ErrName)
	}
}

func TestValidDeclarations(t *testing.T) {
	con, fun := []api.Con{{Name: "C"}}, []api.FunDecl{{Name: "f", Body: x}}
	for _, d := range []api.Decl{
		{Kind: -1}, {Kind: 3}, {Kind: 1 << 40}, {},
		{Data: api.Data{Name: "d", Vars: []string{"a"}}},
		{Data: api.Data{Name: "d", Cons: con}, Exn: "e"},
		{Data: api.Data{Name: "d", Cons: con}, Funs: fun},
		{Kind: api.DExn, Exn: "e", Data: api.Data{Name: "d"}},
		{Kind: api.DExn, Exn: "e", Data: api.Data{Vars: []string{""}}},
		{Kind: api.DExn, Exn: "e", Data: api.Data{Cons: con}},
		{Kind: api.DExn, Exn: "E", Funs: fun},
		{Kind: api.DFuns},
		{Kind: api.DFuns, Funs: fun, Exn: "e"},
		{Kind: api.DFuns, Funs: fun, Data: api.Data{Name: "d"}},
		{Kind: api.DFuns, Funs: fun, Data: api.Data{Vars: []string{"d"}}},
		{Kind: api.DFuns, Funs: fun, Data: api.Data{Cons: con}},
		declOf(api.FunDecl{Name: "F", Types: []api.Type{{}}, Body: x}),
		declOf(api.FunDecl{Name: "F", Params: []string{"X"}, Types: []api.Type{{}}, Body: x}),
		declOf(api.FunDecl{Name: "F", Result: api.Type{Kind: api.TBool}, Body: x}),
		declOf(api.FunDecl{Name: "F", Result: api.Type{Effect: api.Effect{Vars: []int{0}}}, Body: x}),
		declOf(api.FunDecl{Name: "F", Noted: true, Params: []string{"X"}, Body: x}),
		declOf(api.FunDecl{Name: "F", Noted: true, Types: []api.Type{{}}, Body: x}),
		declOf(fun[0], api.FunDecl{Name: "F", Noted: true, Types: []api.Type{{}}, Body: x}),
	} {
		checkValid(t, "a declaration", unitOf(d), api.ErrForm)
	}
	empty := api.Decl{Kind: api.DExn, Exn: "e", Data: api.Data{Vars: []string{}, Cons: []api.Con{}}, Funs: []api.FunDecl{}}
	checkValid(t, "empty lists", api.Unit{Name: "m", Uses: []string{}, Decls: []api.Decl{empty}}, api.OK)
}

func TestValidTypes(t *testing.T) {
	i := api.Type{}
	v := api.Type{Kind: api.TVar, Name: "a"}
	d := api.Type{Kind: api.TData, Name: "d"}
	good := []api.Type{i, typ(api.TBool), typ(api.TUnit), v, d, typ(api.TTuple, i, v), typ(api.TTuple, i, v, d), typ(api.TArrow, i, d), typ(api.TRef, i), typ(api.TArray, d)}
	for _, g := range good {
		checkValid(t, "a type", withResult(g), api.OK)
		for _, spoil := range []func(*api.Type){
			func(t *api.Type) { t.N = 1 },
			func(t *api.Type) { t.Region = -1 },
			func(t *api.Type) { t.Effect.Regions = []int{0} },
			func(t *api.Type) { t.Effect.Vars = []int{0} },
		} {
			s := g
			spoil(&s)
			checkValid(t, "a type with a number", withResult(s), api.ErrForm)
			checkValid(t, "a type with a number in another", withResult(typ(api.TRef, s)), api.ErrForm)
		}
		if g.Name == "" {
			g.Name = "a"
			checkValid(t, "a type with a name", withResult(g), api.ErrForm)
		}
	}
	for _, b := range []api.Type{
		typ(-1), typ(9), typ(api.TInt, i), typ(api.TBool, i), typ(api.TUnit, i), {Kind: api.TVar, Name: "a", Args: []api.Type{i}},
		typ(api.TTuple), typ(api.TTuple, i), typ(api.TArrow), typ(api.TArrow, i), typ(api.TArrow, i, i, i), typ(api.TRef), typ(api.TRef, i, i), typ(api.TArray), typ(api.TArray, i, i),
		typ(api.TArrow, typ(9), v), {Kind: api.TData, Name: "d", Args: []api.Type{i, typ(-1)}},
	} {
		checkValid(t, "no type", withResult(b), api.ErrForm)
		field := api.Con{Name: "C", Fields: []api.Type{i, b}}
		checkValid(t, "no type in a field", unitOf(api.Decl{Data: api.Data{Name: "d", Cons: []api.Con{field}}}), api.ErrForm)
		checkValid(t, "no type of a parameter", unitOf(declOf(api.FunDecl{Name: "f", Noted: true, Params: []string{"x"}, Types: []api.Type{b}, Body: bad})), api.ErrForm)
	}
	checkValid(t, "a name ahead of a type", withResult(typ(api.TArrow, api.Type{Kind: api.TVar}, typ(9))), api.ErrName)
}

// TestValidExpressions: of each kind how many kids it may have, and no field that it does not mention.
func TestValidExpressions(t *testing.T) {
	const endless = 9
	kids := strings.Fields("0 0 0 0 0+ 0+ 2+ 1 2 3 1 1 2 1 1 2 2 2 3 1 1 1 1 2 2 2 2 2 2 2 2")
	for kind := api.EInt; kind <= api.ELess; kind++ {
		good := api.Expr{Kind: kind}
		switch kind {
		case api.EName, api.ECall, api.ELet, api.EFn:
			good.Name = "y"
		case api.EMake:
			good.Name = "C"
		case api.ERaise:
			good.Name = "Div"
		case api.ECase:
			good.Arms = []api.Arm{{Name: "C", Body: x}}
		}
		for n := range endless {
			e := good
			for range n {
				e.Kids = append(e.Kids, x)
			}
			least := int(kids[kind][0] - '0')
			if n == least || n > least && len(kids[kind]) == 2 {
				checkValid(t, "an expression", withBody(e), api.OK)
				checkFields(t, e)
			} else {
				e.Name = "??"
				checkValid(t, "a wrong number of kids", withBody(e), api.ErrForm)
			}
		}
	}
	checkValid(t, "no kind", withBody(api.Expr{Kind: -1}), api.ErrForm)
	checkValid(t, "no kind", withBody(none), api.ErrForm)
	checkValid(t, "no bool", withBody(api.Expr{Kind: api.EBool, Int: 2}), api.ErrForm)
	checkValid(t, "no bool", withBody(api.Expr{Kind: api.EBool, Int: -1}), api.ErrForm)
}

// checkFields: a valid expression is none any more with a field that its kind does not have.
func checkFields(t *testing.T, good api.Expr) {
	t.Helper()
	for _, spoil := range []func(*api.Expr){
		func(e *api.Expr) { e.Type.Kind = api.TBool },
		func(e *api.Expr) { e.Type.Name = "a" },
		func(e *api.Expr) { e.Type.N = 1 },
		func(e *api.Expr) { e.Type.Region = 1 },
		func(e *api.Expr) { e.Type.Args = make([]api.Type, 1) },
		func(e *api.Expr) { e.Type.Effect.Regions = []int{0} },
		func(e *api.Expr) { e.Inst = make([]api.Type, 1) },
		func(e *api.Expr) {
			if e.Kind != api.EInt && e.Kind != api.EGet {
				e.Int = 2
			} else {
				e.Name = "x"
			}
		},
		func(e *api.Expr) {
			if e.Name == "" {
				e.Name = "x"
			} else {
				e.Int = 1
			}
		},
		func(e *api.Expr) {
			if e.Kind == api.ECase {
				e.Arms = nil
			} else if e.Kind != api.EHandle {
				e.Arms = []api.Arm{{Name: "C", Body: x}}
			} else {
				e.Arms = []api.Arm{{Name: "e", Vars: []string{"a", "b"}, Body: x}}
			}
		},
	} {
		e := good
		spoil(&e)
		checkValid(t, "a field too many", withBody(e), api.ErrForm)
	}
	good.At, good.Type.Args, good.Inst = -1, []api.Type{}, []api.Type{}
	checkValid(t, "an At and empty lists", withBody(good), api.OK)
}

func TestValidGet(t *testing.T) {
	for n, want := range map[int64]api.Errno{0: api.OK, 999: api.OK, 1000: api.ErrNumber, -1: api.ErrNumber, 1 << 62: api.ErrNumber} {
		e := form(api.EGet, x)
		e.Int = n
		checkValid(t, "get", withBody(e), want)
		if want != api.OK {
			e.Kids = []api.Expr{none}
			checkValid(t, "get's number ahead of its kid", withBody(e), want)
			e.Kids = append(e.Kids, x)
			checkValid(t, "get's number of kids ahead of its number", withBody(e), api.ErrForm)
		}
	}
}

func TestValidArms(t *testing.T) {
	e := func(kind int, kid api.Expr, arms ...api.Arm) api.Unit {
		return withBody(api.Expr{Kind: kind, Kids: []api.Expr{kid}, Arms: arms})
	}
	arm := func(name string, body api.Expr, vars ...string) api.Arm {
		return api.Arm{Name: name, Vars: vars, Body: body}
	}
	checkValid(t, "case", e(api.ECase, x, arm("C", x), arm("D", x, "a", "a", "b")), api.OK)
	checkValid(t, "case without arms", e(api.ECase, bad), api.ErrForm)
	checkValid(t, "case's kid ahead of its arms", e(api.ECase, bad, arm("C", none)), api.ErrName)
	checkValid(t, "case's constructor ahead of the body", e(api.ECase, x, arm("c", none)), api.ErrName)
	checkValid(t, "case's variable ahead of the body", e(api.ECase, x, arm("C", none, "a", "B")), api.ErrName)
	checkValid(t, "case's first arm ahead of the second", e(api.ECase, x, arm("C", none), arm("c", x)), api.ErrForm)
	checkValid(t, "handle without arms", e(api.EHandle, x), api.OK)
	checkValid(t, "handle", e(api.EHandle, x, arm("e", x, "v"), arm("Size", x, "v")), api.OK)
	checkValid(t, "handle without a variable", e(api.EHandle, x, arm("E", x)), api.ErrForm)
	checkValid(t, "handle with two variables", e(api.EHandle, x, arm("E", x, "v", "w")), api.ErrForm)
	checkValid(t, "handle's kid ahead of its arms", e(api.EHandle, bad, arm("e", x)), api.ErrName)
	checkValid(t, "handle's exception ahead of the body", e(api.EHandle, x, arm("E", none, "v")), api.ErrName)
	checkValid(t, "handle's variable ahead of the body", e(api.EHandle, x, arm("e", none, "V")), api.ErrName)
	checkValid(t, "handle's first arm ahead of the second", e(api.EHandle, x, arm("e", bad, "v"), arm("e", x)), api.ErrName)
}

func TestValidOrder(t *testing.T) {
	funs := func(f ...api.FunDecl) api.Unit { return unitOf(declOf(f...)) }
	u := unitOf(api.Decl{Kind: 9})
	u.Name = "M"
	checkValid(t, "the unit's name first", u, api.ErrName)
	u.Name, u.Uses = "m", []string{"L"}
	checkValid(t, "uses ahead of declarations", u, api.ErrName)
	checkValid(t, "declarations in turn", unitOf(api.Decl{Kind: api.DExn, Exn: "E"}, api.Decl{Kind: 9}), api.ErrName)
	checkValid(t, "declarations in turn", unitOf(api.Decl{Kind: 9}, api.Decl{Kind: api.DExn, Exn: "E"}), api.ErrForm)
	checkValid(t, "a name ahead of the body", funs(api.FunDecl{Name: "F", Body: none}), api.ErrName)
	checkValid(t, "a parameter ahead of the body", funs(api.FunDecl{Name: "f", Params: []string{"X"}, Body: none}), api.ErrName)
	two := api.FunDecl{Name: "f", Noted: true, Params: []string{"x", "Y"}, Types: []api.Type{typ(9), {}}, Body: x}
	checkValid(t, "a type ahead of the next parameter", funs(two), api.ErrForm)
	two.Types[0] = api.Type{}
	two.Result = typ(9)
	checkValid(t, "parameters ahead of the result", funs(two), api.ErrName)
	two.Params[1] = "y"
	two.Body = bad
	checkValid(t, "the result ahead of the body", funs(two), api.ErrForm)
	checkValid(t, "functions in turn", funs(api.FunDecl{Name: "f", Body: bad}, api.FunDecl{Name: "f", Types: []api.Type{{}}, Body: x}), api.ErrName)
	checkValid(t, "functions in turn", funs(api.FunDecl{Name: "f", Body: none}, api.FunDecl{Name: "F", Body: x}), api.ErrForm)
	checkValid(t, "a let's name ahead of its kids", withBody(named(api.ELet, "X", none, x)), api.ErrName)
	checkValid(t, "a let's kids in turn", withBody(named(api.ELet, "y", bad, none)), api.ErrName)
	checkValid(t, "a call's name ahead of its kids", withBody(named(api.ECall, "F", none)), api.ErrName)
	checkValid(t, "kids in turn", withBody(form(api.EAdd, none, bad)), api.ErrForm)
	data := api.Data{Name: "d", Vars: []string{"A"}, Cons: []api.Con{{Name: "C", Fields: []api.Type{typ(9)}}, {Name: "c"}}}
	checkValid(t, "variables ahead of constructors", unitOf(api.Decl{Data: data}), api.ErrName)
	data.Vars = nil
	checkValid(t, "constructors in turn", unitOf(api.Decl{Data: data}), api.ErrForm)
}

func TestValidDepth(t *testing.T) {
	const body = api.MaxDepth - 2 // how many forms may be nested in a function's body
	kindless := api.Expr{Kind: api.EPrint}
	checkValid(t, "the deepest body", withBody(nest(body, x)), api.OK)
	checkValid(t, "a body that is too deep", withBody(nest(body+1, x)), api.ErrDeep)
	checkValid(t, "a form that is too deep, and of a wrong shape", withBody(nest(body, kindless)), api.ErrDeep)
	checkValid(t, "the deepest form, of a wrong shape", withBody(nest(body-1, kindless)), api.ErrForm)
	checkValid(t, "a form of no kind that is too deep", withBody(nest(body, none)), api.ErrDeep)
	checkValid(t, "a word of a wrong shape in the deepest form", withBody(nest(body, api.Expr{Kind: api.EUnit, Name: "x"})), api.ErrForm)
	checkValid(t, "a wrong name in the deepest form", withBody(nest(body, bad)), api.ErrName)
	checkValid(t, "a name ahead of a form that is too deep", withBody(nest(body-1, form(api.EAdd, bad, form(api.EPrint, x)))), api.ErrName)
	long := nest(1<<16, x)
	checkValid(t, "a very deep body", withBody(long), api.ErrDeep)

	in := func(n, kind int, arm api.Arm) api.Unit {
		return withBody(nest(n, api.Expr{Kind: kind, Kids: []api.Expr{x}, Arms: []api.Arm{arm}}))
	}
	checkValid(t, "the deepest case", in(body-3, api.ECase, api.Arm{Name: "C", Body: x}), api.OK)
	checkValid(t, "the deepest case with a form", in(body-3, api.ECase, api.Arm{Name: "C", Body: nest(1, x)}), api.OK)
	checkValid(t, "a case with a form that is too deep", in(body-3, api.ECase, api.Arm{Name: "C", Body: nest(2, x)}), api.ErrDeep)
	checkValid(t, "a pattern that is too deep", in(body-2, api.ECase, api.Arm{Name: "c", Body: none}), api.ErrDeep)
	checkValid(t, "an arm that is too deep", in(body-1, api.ECase, api.Arm{Name: "C", Body: x}), api.ErrDeep)
	checkValid(t, "the deepest handle", in(body-2, api.EHandle, api.Arm{Name: "e", Vars: []string{"v"}, Body: x}), api.OK)
	checkValid(t, "a handle with a form that is too deep", in(body-2, api.EHandle, api.Arm{Name: "e", Vars: []string{"v"}, Body: nest(1, x)}), api.ErrDeep)
	checkValid(t, "the deepest arm, of a wrong shape", in(body-2, api.EHandle, api.Arm{Name: "e", Body: x}), api.ErrForm)
	checkValid(t, "an arm that is too deep, and of a wrong shape", in(body-1, api.EHandle, api.Arm{Name: "e", Body: x}), api.ErrDeep)
	checkValid(t, "the deepest function of two", unitOf(declOf(api.FunDecl{Name: "f", Body: x}, api.FunDecl{Name: "f", Body: nest(body-1, x)})), api.OK)
	checkValid(t, "a function of two that is too deep", unitOf(declOf(api.FunDecl{Name: "f", Body: x}, api.FunDecl{Name: "f", Body: nest(body, x)})), api.ErrDeep)
}

func TestValidTypeDepth(t *testing.T) {
	const result = api.MaxDepth - 2
	noted := func(n int) api.Unit {
		return unitOf(declOf(api.FunDecl{Name: "f", Noted: true, Params: []string{"x"}, Types: []api.Type{nestType(n, api.Type{})}, Body: x}))
	}
	field := func(n int) api.Unit {
		con := api.Con{Name: "C", Fields: []api.Type{nestType(n, api.Type{})}}
		return unitOf(api.Decl{Data: api.Data{Name: "d", Cons: []api.Con{con}}})
	}
	checkValid(t, "the deepest result", withResult(nestType(result, api.Type{})), api.OK)
	checkValid(t, "a result that is too deep", withResult(nestType(result+1, api.Type{})), api.ErrDeep)
	checkValid(t, "a data type that is too deep", withResult(nestType(result, api.Type{Kind: api.TData, Name: "D"})), api.ErrDeep)
	checkValid(t, "a tuple that is too deep, and of a wrong shape", withResult(nestType(result, typ(api.TTuple))), api.ErrDeep)
	checkValid(t, "no type that is too deep", withResult(nestType(result, typ(-1))), api.ErrDeep)
	checkValid(t, "a word of a wrong shape in the deepest type", withResult(nestType(result, typ(api.TInt, api.Type{}))), api.ErrForm)
	checkValid(t, "the deepest parameter", noted(result-2), api.OK)
	checkValid(t, "a parameter that is too deep", noted(result-1), api.ErrDeep)
	checkValid(t, "the deepest field", field(result-1), api.OK)
	checkValid(t, "a field that is too deep", field(result), api.ErrDeep)
}

// TestValidEndless: a tree that stands in itself is refused, not followed.
func TestValidEndless(t *testing.T) {
	e := form(api.EAdd, x, x)
	e.Kids[0], e.Kids[1] = e, e
	checkErrno(t, withBody(e), api.ErrDeep)
	p := typ(api.TArrow, api.Type{}, api.Type{})
	p.Args[0], p.Args[1] = p, p
	checkErrno(t, withResult(p), api.ErrDeep)
}

func checkErrno(t *testing.T, u api.Unit, want api.Errno) {
	t.Helper()
	if e := words.Valid(u); e != want {
		t.Errorf("Valid: %d, not %d", e, want)
	}
	if s, e := words.Print(u); s != "" || e != want {
		t.Errorf("Print: %d bytes, %d, not %d", len(s), e, want)
	}
}

// TestValidSize: a text of just MaxText bytes, one of one more, and errors ahead of that.
func TestValidSize(t *testing.T) {
	u := api.Unit{Name: "m"}
	size := len("(unit m)")
	for size+len(" (use a)")+32 <= api.MaxText {
		u.Uses = append(u.Uses, "a")
		size += len(" (use a)")
	}
	u.Uses = append(u.Uses, strings.Repeat("a", api.MaxText-size-len(" (use )")))
	if s, e := words.Print(u); len(s) != api.MaxText || e != api.OK || words.Valid(u) != api.OK {
		t.Errorf("Print: %d bytes, %d", len(s), e)
	}
	u.Uses[0] = "aa"
	checkErrno(t, u, api.ErrBig)
	u.Decls = []api.Decl{{Kind: api.DExn, Exn: "E"}}
	checkErrno(t, u, api.ErrName)
	u.Decls[0] = api.Decl{Kind: -1}
	checkErrno(t, u, api.ErrForm)
	huge := strings.Repeat("a", 1<<20)
	checkErrno(t, api.Unit{Name: huge}, api.ErrName)
	many := withBody(named(api.ECall, "f"))
	many.Decls[0].Funs[0].Body.Kids = make([]api.Expr, 1<<20)
	checkErrno(t, many, api.ErrBig)
}
