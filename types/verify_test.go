package types_test

import (
	"strings"
	"testing"

	"heriot/api"
)

// change is a change of a program that Verify takes, and what it says then.
type change struct {
	what string
	e    api.Errno
	do   func(p *api.Typed)
}

func checkChanges(t *testing.T, texts []string, list []change) {
	t.Helper()
	for _, c := range list {
		p := found(t, texts...)
		c.do(&p)
		verifyAs(t, c.what, p, c.e)
	}
}

var sample = []string{
	"(unit a (data d (a b) (A) (B a (d b a))) (data e () (E (d int int))) (exception x1) (fun f (x y) (tuple x y)))",
	"(unit m (use a) (fun g ((x a)) a x) (fun main (n) (seq (f n 1) n)))",
}

func TestVerifyExample(t *testing.T) {
	texts := []string{"(unit m (data list (a) (Nil) (Cons a (list a))) (fun len2 (l) (case l ((Nil) 0) ((Cons x r) (+ 1 (len2 r))))) (fun main (n) (len2 (Cons n (Nil)))))"}
	checkChanges(t, texts, []change{
		{"the example", api.OK, func(p *api.Typed) {}},
		{"another instance", api.ErrMismatch, func(p *api.Typed) { p.Funs[1].Body.Inst[0] = boolean }},
	})
	verifyAs(t, "nothing", api.Typed{}, api.ErrUnknown)
	verifyAs(t, "no functions", api.Typed{Exns: []string{"Div", "Index", "Size"}}, api.ErrMain)
}

func TestVerifyNames(t *testing.T) {
	checkChanges(t, sample, []change{
		{"a data type's name", api.ErrName, func(p *api.Typed) { p.Datas[0].Name = "D" }},
		{"a kept word", api.ErrName, func(p *api.Typed) { p.Datas[0].Name = "int" }},
		{"no name", api.ErrName, func(p *api.Typed) { p.Datas[1].Name = "" }},
		{"a data type twice", api.ErrTwice, func(p *api.Typed) { p.Datas[1].Name = "d" }},
		{"a type variable's name", api.ErrName, func(p *api.Typed) { p.Datas[0].Vars[1] = "B" }},
		{"a type variable twice", api.ErrTwice, func(p *api.Typed) { p.Datas[0].Vars[1] = "a" }},
		{"the same type variable in two data types", api.OK, func(p *api.Typed) {
			p.Datas = append(p.Datas, api.Data{Name: "k", Vars: []string{"a"}, Cons: []api.Con{{Name: "K"}}})
		}},
		{"no constructors", api.ErrCount, func(p *api.Typed) { p.Datas[0].Cons = nil }},
		{"a constructor's name", api.ErrName, func(p *api.Typed) { p.Datas[0].Cons[1].Name = "b" }},
		{"a constructor twice", api.ErrTwice, func(p *api.Typed) { p.Datas[0].Cons[1].Name = "A" }},
		{"a constructor of another data type", api.ErrTwice, func(p *api.Typed) { p.Datas[1].Cons[0].Name = "A" }},
		{"exceptions that do not begin so", api.ErrUnknown, func(p *api.Typed) { p.Exns[0], p.Exns[1] = "Index", "Div" }},
		{"too few exceptions", api.ErrUnknown, func(p *api.Typed) { p.Exns = p.Exns[:2] }},
		{"the first three alone", api.OK, func(p *api.Typed) { p.Exns = p.Exns[:3] }},
		{"an exception's name", api.ErrName, func(p *api.Typed) { p.Exns[3] = "X" }},
		{"Div twice", api.ErrName, func(p *api.Typed) { p.Exns[3] = "Div" }},
		{"an exception twice", api.ErrTwice, func(p *api.Typed) { p.Exns = append(p.Exns, "x1") }},
		{"a function's name", api.ErrName, func(p *api.Typed) { p.Funs[0].Name = "f g" }},
		{"a function twice", api.ErrTwice, func(p *api.Typed) { p.Funs[1].Name = "f" }},
		{"a parameter's name", api.ErrName, func(p *api.Typed) { p.Funs[0].Params[1] = strings.Repeat("y", 33) }},
		{"a parameter twice", api.ErrTwice, func(p *api.Typed) { p.Funs[0].Params[1] = "x" }},
		{"names of all kinds that are the same", api.OK, func(p *api.Typed) { p.Datas[0].Name, p.Datas[1].Name, p.Exns[3] = "f", "g", "f" }},
		// The order.
		{"a variable, a constructor", api.ErrName, func(p *api.Typed) { p.Datas[0].Vars[0], p.Datas[0].Cons = "", nil }},
		{"a name, a variable", api.ErrTwice, func(p *api.Typed) {
			p.Datas[1].Name, p.Datas[1].Vars, p.Datas[1].Cons = "d", []string{""}, nil
		}},
		{"constructors, the next data type", api.ErrCount, func(p *api.Typed) { p.Datas[0].Cons, p.Datas[1].Name = nil, "" }},
		{"a data type, exceptions", api.ErrTwice, func(p *api.Typed) { p.Datas[1].Name, p.Exns = "d", nil }},
		{"exceptions, a function", api.ErrUnknown, func(p *api.Typed) { p.Exns, p.Funs[0].Name = nil, "" }},
		{"a parameter, the next function", api.ErrTwice, func(p *api.Typed) { p.Funs[0].Params[1], p.Funs[1].Name = "x", "" }},
		{"a parameter, a type", api.ErrName, func(p *api.Typed) { p.Funs[2].Params[0], p.Datas[0].Cons[1].Fields[0].Kind = "", -1 }},
	})
}

func TestVerifyDeclarations(t *testing.T) {
	field := func(of api.Type) func(p *api.Typed) {
		return func(p *api.Typed) { p.Datas[0].Cons[1].Fields[0] = of }
	}
	param := func(of api.Type) func(p *api.Typed) {
		return func(p *api.Typed) { p.Funs[0].Scheme.Params[0] = of }
	}
	result := func(of api.Type) func(p *api.Typed) {
		return func(p *api.Typed) { p.Funs[0].Scheme.Result = of }
	}
	checkChanges(t, sample, []change{
		{"a variable", api.OK, field(variable(1))},
		{"a variable out of range", api.ErrUnknown, field(variable(2))},
		{"a variable below 0", api.ErrUnknown, field(variable(-1))},
		{"its own data type", api.OK, field(data(0, integer, data(0, integer, boolean)))},
		{"a data type behind", api.ErrUnknown, field(data(1))},
		{"a data type behind all", api.ErrUnknown, field(data(2))},
		{"a data type below 0", api.ErrUnknown, field(data(-1))},
		{"a data type of too few types", api.ErrCount, field(data(0, integer))},
		{"a data type of too many types", api.ErrCount, field(data(0, integer, integer, typ(-1)))},
		{"a kind below 0", api.ErrForm, field(typ(-1))},
		{"a kind that is none", api.ErrForm, field(typ(api.TArray+1, integer))},
		{"a name", api.ErrForm, field(api.Type{Kind: api.TVar, Name: "a"})},
		{"a region", api.ErrForm, field(api.Type{Kind: api.TVar, Region: 1})},
		{"regions", api.ErrForm, field(api.Type{Effect: api.Effect{Regions: []int{0}}})},
		{"effect variables", api.ErrForm, field(api.Type{Effect: api.Effect{Vars: []int{0}}})},
		{"empty lists", api.OK, field(api.Type{Args: []api.Type{}, Effect: api.Effect{Regions: []int{}, Vars: []int{}}})},
		{"an int with a number", api.ErrForm, field(api.Type{N: 1})},
		{"a tuple with a number", api.ErrForm, field(api.Type{Kind: api.TTuple, N: 1})},
		{"a bool with parts", api.ErrCount, field(typ(api.TBool, integer))},
		{"a unit with parts", api.ErrCount, field(typ(api.TUnit, integer))},
		{"a variable with parts", api.ErrCount, field(typ(api.TVar, integer))},
		{"a tuple of one", api.ErrCount, field(typ(api.TTuple, integer))},
		{"a tuple of many", api.OK, field(typ(api.TTuple, integer, integer, integer, integer))},
		{"half an arrow", api.ErrCount, field(typ(api.TArrow, integer))},
		{"an arrow of three", api.ErrCount, field(typ(api.TArrow, integer, integer, integer))},
		{"an empty ref", api.ErrCount, field(typ(api.TRef))},
		{"a ref of two", api.ErrCount, field(typ(api.TRef, integer, integer))},
		{"an empty array", api.ErrCount, field(typ(api.TArray))},
		{"the outside first", api.ErrUnknown, field(data(7, typ(-1)))},
		{"the number of parts first", api.ErrCount, field(typ(api.TRef, typ(-1), integer))},
		{"parts from the left", api.ErrUnknown, field(typ(api.TTuple, variable(7), typ(-1)))},
		{"parts of parts", api.ErrUnknown, field(typ(api.TTuple, typ(api.TRef, variable(7)), typ(-1)))},
		{"form ahead of range", api.ErrForm, field(api.Type{Kind: api.TVar, N: 7, Region: 1})},
		{"range ahead of count", api.ErrUnknown, field(api.Type{Kind: api.TVar, N: 7, Args: []api.Type{integer}})},
		{"a parameter's variable", api.ErrUnknown, param(variable(2))},
		{"a parameter's data type", api.ErrUnknown, param(data(2))},
		{"a parameter's kind", api.ErrForm, param(typ(99))},
		{"a result's variable", api.ErrUnknown, result(variable(2))},
		{"a result's parts", api.ErrCount, result(data(1, integer))},
		{"variables below 0", api.ErrCount, func(p *api.Typed) { p.Funs[0].Scheme.Vars = -1 }},
		{"as many variables as may be", api.OK, func(p *api.Typed) { p.Funs[1].Scheme.Vars = api.MaxNodes }},
		{"too many variables", api.ErrCount, func(p *api.Typed) { p.Funs[1].Scheme.Vars = api.MaxNodes + 1 }},
		{"too few parameters", api.ErrCount, func(p *api.Typed) { p.Funs[0].Scheme.Params = p.Funs[0].Scheme.Params[:1] }},
		{"too many parameters", api.ErrCount, func(p *api.Typed) { p.Funs[0].Scheme.Params = append(p.Funs[0].Scheme.Params, integer) }},
		{"fewer variables than stand there", api.ErrUnknown, func(p *api.Typed) { p.Funs[0].Scheme.Vars = 1 }},
		// The order.
		{"the number of parameters, a type", api.ErrCount, func(p *api.Typed) { p.Funs[0].Scheme.Params = []api.Type{typ(-1)} }},
		{"a parameter, the result", api.ErrUnknown, func(p *api.Typed) { p.Funs[0].Scheme.Params[1], p.Funs[0].Scheme.Result = variable(7), typ(-1) }},
		{"a data type, a function", api.ErrUnknown, func(p *api.Typed) { p.Datas[1].Cons[0].Fields[0], p.Funs[0].Scheme.Vars = data(7), -1 }},
		{"a type, a unit", api.ErrForm, func(p *api.Typed) { p.Funs[2].Scheme.Result, p.Funs[0].Unit = typ(-1), -1 }},
	})
}

func TestVerifyUnitsAndMain(t *testing.T) {
	unit := func(numbers ...int) func(p *api.Typed) {
		return func(p *api.Typed) {
			for i, n := range numbers {
				p.Funs[i].Unit = n
			}
		}
	}
	checkChanges(t, sample, []change{
		{"one unit", api.OK, unit(0, 0, 0)},
		{"units with gaps", api.OK, unit(3, 7, api.MaxUnits-1)},
		{"a unit below 0", api.ErrUse, unit(-1, 0, 0)},
		{"a unit below the one ahead", api.ErrUse, unit(1, 0, 0)},
		{"a unit behind all", api.ErrUse, unit(0, 1, api.MaxUnits)},
		{"a unit, main", api.ErrUse, func(p *api.Typed) { p.Funs[0].Unit, p.Main = -1, 7 }},
		{"main below 0", api.ErrMain, func(p *api.Typed) { p.Main = -1 }},
		{"main behind all", api.ErrMain, func(p *api.Typed) { p.Main = 3 }},
		{"another function", api.ErrMain, func(p *api.Typed) { p.Main = 0 }},
		{"another name", api.ErrMain, func(p *api.Typed) { p.Funs[2].Name = "main2" }},
		{"a main with type variables", api.ErrMain, func(p *api.Typed) { p.Funs[2].Scheme.Vars = 1 }},
		{"a main of another parameter", api.ErrMain, func(p *api.Typed) { p.Funs[2].Scheme.Params[0] = boolean }},
		{"a main of another result", api.ErrMain, func(p *api.Typed) { p.Funs[2].Scheme.Result = nothing }},
		{"a main of four parameters", api.OK, func(p *api.Typed) { moreParams(&p.Funs[2], "a", "b", "c") }},
		{"a main of five parameters", api.ErrMain, func(p *api.Typed) { moreParams(&p.Funs[2], "a", "b", "c", "d") }},
		{"main, a body", api.ErrMain, func(p *api.Typed) { p.Main, p.Funs[0].Body = 0, api.Expr{Kind: -1} }},
	})
	checkChanges(t, []string{"(unit m (data k () (K)) (fun f () 0) (fun main () 0))"}, []change{
		{"a main that is not the last one", api.OK, func(p *api.Typed) {
			p.Funs[0], p.Funs[1], p.Main = p.Funs[1], p.Funs[0], 0
		}},
	})
}

func moreParams(f *api.TypedFun, names ...string) {
	f.Params = append(f.Params, names...)
	for range names {
		f.Scheme.Params = append(f.Scheme.Params, integer)
	}
}

// ofBody is a change of the expression x of a body (seq x 0).
type ofBody struct {
	text string
	e    api.Errno
	do   func(x *api.Expr)
}

func checkBodies(t *testing.T, list []ofBody) {
	t.Helper()
	for _, c := range list {
		p := found(t, inBody("(seq "+c.text+" 0)"))
		f := &p.Funs[len(p.Funs)-2]
		c.do(&f.Body.Kids[0])
		verifyAs(t, c.text, p, c.e)
	}
}

// unknown makes a literal a variable that is none.
func unknown(x *api.Expr) { x.Kind, x.Int, x.Name = api.EName, 0, "none" }

// TestVerifyForms: expressions that are no trees of chapter 1.
func TestVerifyForms(t *testing.T) {
	kid := api.Expr{}
	arm := api.Arm{Name: "Div", Vars: []string{"x"}}
	name := func(s string) func(x *api.Expr) { return func(x *api.Expr) { x.Name = s } }
	number := func(n int64) func(x *api.Expr) { return func(x *api.Expr) { x.Int = n } }
	for _, text := range []string{
		"1", "true", "unit", "p", "(id p)", "(Pair p q)", "(tuple p q)", "(get 0 (tuple p q))", "(let x p x)", "(if true p p)", "(case (Nil) ((Nil) 0) ((Cons x r) 1))",
		"(fn x x)", "(call p q)", "(ref p)", "(deref p)", "(set p q)", "(array 1 p)", "(at p 1)", "(put p 1 q)", "(len p)", "(raise no 1)", "(handle p (Div x p))", "(print 1)",
		"(seq p q)", "(+ 1 1)", "(- 1 1)", "(* 1 1)", "(/ 1 1)", "(% 1 1)", "(= 1 1)", "(< 1 1)",
	} {
		checkBodies(t, []ofBody{
			{text, api.OK, func(x *api.Expr) { x.At = -7 }},
			{text, api.ErrForm, func(x *api.Expr) { x.Kind = -1 }},
			{text, api.ErrForm, func(x *api.Expr) { x.Kind = api.ELess + 1 }},
			{text, api.ErrForm, func(x *api.Expr) { x.Arms = append(x.Arms, api.Arm{Name: "div"}) }},
			{text, api.ErrForm, name("1")},
		})
		head := strings.Fields(text)[0]
		if head != "(id" && head != "(Pair" && head != "(tuple" {
			checkBodies(t, []ofBody{{text, api.ErrForm, func(x *api.Expr) { x.Kids = append(x.Kids, kid) }}})
		}
		if head != "(id" && head != "(Pair" {
			checkBodies(t, []ofBody{{text, api.ErrForm, func(x *api.Expr) { x.Inst = []api.Type{integer} }}})
			if head[0] == '(' {
				checkBodies(t, []ofBody{{text, api.ErrForm, func(x *api.Expr) { x.Kids = x.Kids[1:] }}})
			}
		}
		if head != "1" && head != "true" && head != "(get" {
			checkBodies(t, []ofBody{{text, api.ErrForm, number(1)}})
		}
		if head != "(case" && head != "(handle" {
			checkBodies(t, []ofBody{{text, api.ErrForm, func(x *api.Expr) { x.Arms = []api.Arm{arm} }}})
		}
	}
	checkBodies(t, []ofBody{
		{"5", api.OK, number(-1 << 63)},
		{"true", api.ErrForm, number(2)},
		{"true", api.ErrForm, number(-1)},
		{"(get 0 (tuple p q))", api.OK, func(x *api.Expr) { x.Int, x.Type = 1, x.Kids[0].Type.Args[1] }},
		{"(get 0 (tuple p q))", api.ErrForm, number(-1)},
		{"(get 0 (tuple p q))", api.ErrForm, number(1000)},
		{"(get 0 (tuple p q))", api.ErrMismatch, number(999)},
		{"p", api.ErrForm, name("let")},
		{"(id p)", api.ErrForm, name("Id")},
		{"(Nil)", api.ErrForm, name("nil")},
		{"(let x p x)", api.ErrForm, name("")},
		{"(fn x x)", api.ErrForm, name("X")},
		{"(raise no 1)", api.ErrForm, name("No")},
		{"(raise no 1)", api.OK, name("Size")},
		{"(handle p (Div x p))", api.OK, func(x *api.Expr) { x.Arms[0].Name = "Index" }},
		{"(handle p (Div x p))", api.ErrForm, func(x *api.Expr) { x.Arms[0].Name = "Inde" }},
		{"(handle p (Div x p))", api.ErrForm, func(x *api.Expr) { x.Arms[0].Vars = nil }},
		{"(handle p (Div x p))", api.ErrForm, func(x *api.Expr) { x.Arms[0].Vars = []string{"x", "y"} }},
		{"(handle p (Div x p))", api.ErrForm, func(x *api.Expr) { x.Arms[0].Vars[0] = "X" }},
		{"(handle p (Div x p))", api.OK, func(x *api.Expr) { x.Arms = nil }},
		{"(case (Red) ((Red) 0) ((Green) 1))", api.ErrForm, func(x *api.Expr) { x.Arms = nil }},
		{"(case (Red) ((Red) 0) ((Green) 1))", api.ErrForm, func(x *api.Expr) { x.Arms[1].Name = "green" }},
		{"(case (Nil) ((Nil) 0) ((Cons x r) 1))", api.ErrForm, func(x *api.Expr) { x.Arms[1].Vars[1] = "R" }},
		{"(tuple p q)", api.ErrForm, func(x *api.Expr) { x.Kids = x.Kids[:1] }},
		// Arms with so many variables that no text could have them are a matter of their number.
		{"(case (Nil) ((Nil) 0) ((Cons x r) 1))", api.ErrCount, func(x *api.Expr) { x.Arms[1].Vars = names("x", 20000) }},
		// The shape of an outer expression comes ahead of all in it.
		{"(print 1)", api.ErrForm, func(x *api.Expr) { x.Int = 1; unknown(&x.Kids[0]) }},
		{"(print 1)", api.ErrUnknown, func(x *api.Expr) { x.Type.Kind = -1; unknown(&x.Kids[0]) }},
		{"(+ 1 2)", api.ErrUnknown, func(x *api.Expr) { unknown(&x.Kids[0]); x.Kids[1].Kind = -1 }},
	})
}

// TestVerifyOrder: what is looked at first where several things are wrong at one expression.
func TestVerifyOrder(t *testing.T) {
	wrong := func(x *api.Expr) { x.Type = nothing } // a literal of a wrong type
	checkBodies(t, []ofBody{
		{"p", api.ErrForm, func(x *api.Expr) { x.Name, x.Type = "none", typ(-1) }},
		{"p", api.ErrCount, func(x *api.Expr) { x.Name, x.Type = "none", typ(api.TRef) }},
		{"p", api.ErrUnknown, func(x *api.Expr) { x.Name, x.Type = "none", boolean }},
		{"p", api.ErrUnknown, func(x *api.Expr) { x.Type = variable(2) }},
		{"p", api.ErrMismatch, func(x *api.Expr) { x.Type = variable(1) }},
		{"p", api.ErrUnknown, func(x *api.Expr) { x.Name = "id" }},
		{"(two 1 2)", api.ErrUnknown, func(x *api.Expr) { x.Name = "none"; x.Kids = nil }},
		{"(two 1 2)", api.ErrMismatch, func(x *api.Expr) { x.Name = "none"; wrong(&x.Kids[1]) }},
		{"(two 1 2)", api.ErrCount, func(x *api.Expr) { x.Kids = x.Kids[:1] }},
		{"(two 1 2)", api.ErrCount, func(x *api.Expr) { x.Inst = []api.Type{integer} }},
		{"(two 1 2)", api.ErrForm, func(x *api.Expr) { x.Inst = []api.Type{typ(-1)} }},
		{"(id 1)", api.ErrCount, func(x *api.Expr) { x.Inst = nil }},
		{"(id 1)", api.ErrUnknown, func(x *api.Expr) { x.Inst[0] = variable(9) }},
		{"(id 1)", api.ErrMismatch, func(x *api.Expr) { x.Inst[0] = boolean }},
		{"(id 1)", api.ErrMismatch, func(x *api.Expr) { x.Type = boolean }},
		{"(id 1)", api.ErrForm, func(x *api.Expr) { x.Type, x.Inst[0] = typ(-1), typ(api.TRef) }},
		{"(id 1)", api.ErrCount, func(x *api.Expr) { x.Type, x.Inst[0] = typ(api.TRef), typ(-1) }},
		{"(Cons 1 (Nil))", api.ErrUnknown, func(x *api.Expr) { x.Name, x.Kids = "None", nil }},
		{"(Cons 1 (Nil))", api.ErrCount, func(x *api.Expr) { x.Name = "Nil" }},
		{"(Cons 1 (Nil))", api.ErrCount, func(x *api.Expr) { x.Inst = append(x.Inst, integer) }},
		{"(Cons 1 (Nil))", api.ErrMismatch, func(x *api.Expr) { x.Inst[0] = boolean }},
		{"(Nil)", api.ErrMismatch, func(x *api.Expr) { x.Inst[0] = typ(api.TRef, x.Type.Args[0]) }},
		{"(Nil)", api.OK, func(x *api.Expr) { x.Inst[0], x.Type.Args[0] = boolean, boolean }},
		{"(raise no 1)", api.ErrUnknown, func(x *api.Expr) { x.Name = "none" }},
		{"(raise no 1)", api.ErrMismatch, func(x *api.Expr) { x.Name = "none"; wrong(&x.Kids[0]) }},
		{"(raise no 1)", api.OK, func(x *api.Expr) { x.Type = data(2) }},
		{"(raise no 1)", api.ErrCount, func(x *api.Expr) { x.Type = data(2, integer) }},
		{"(fn x x)", api.ErrMismatch, func(x *api.Expr) { x.Type = integer; unknown(&x.Kids[0]) }},
		{"(fn x x)", api.ErrMismatch, func(x *api.Expr) { x.Type = typ(api.TArrow); unknown(&x.Kids[0]) }},
		{"(fn x x)", api.ErrUnknown, func(x *api.Expr) { x.Type.N = 1; unknown(&x.Kids[0]) }},
		{"(fn x x)", api.ErrForm, func(x *api.Expr) { x.Type.N = 1 }},
		{"(fn x x)", api.ErrForm, func(x *api.Expr) { x.Type.Args[0].Name = "a" }},
		{"(fn x 1)", api.ErrForm, func(x *api.Expr) { x.Type.Args[0] = typ(-1) }},
		{"(fn x 1)", api.OK, func(x *api.Expr) { x.Type.Args[0] = boolean }},
	})
	nested := func(x *api.Expr) *api.Expr { return &x.Arms[0].Body }
	checkBodies(t, []ofBody{
		{"(case (Nil) ((Cons x r) 1) ((Nil) 0))", api.ErrUnknown, func(x *api.Expr) { unknown(&x.Kids[0]); x.Kids[0].Kids, x.Kids[0].Inst, x.Arms = nil, nil, x.Arms[:1] }},
		{"(case (Nil) ((Cons x r) 1) ((Nil) 0))", api.ErrArms, func(x *api.Expr) { x.Arms = x.Arms[:1]; unknown(nested(x)) }},
		{"(case (Nil) ((Cons x r) 1) ((Nil) 0))", api.ErrArms, func(x *api.Expr) { x.Arms[1].Name = "Red"; unknown(nested(x)) }},
		{"(case (Nil) ((Cons x r) 1) ((Nil) 0))", api.ErrArms, func(x *api.Expr) { x.Arms[1].Name = "None"; unknown(nested(x)) }},
		{"(case (Nil) ((Cons x r) 1) ((Nil) 0))", api.ErrArms, func(x *api.Expr) { x.Arms[1].Name = "Cons"; unknown(nested(x)) }},
		{"(case (Nil) ((Cons x r) 1) ((Nil) 0))", api.ErrCount, func(x *api.Expr) { x.Arms[0].Vars = []string{"x", "x", "x"}; x.Arms[1].Name = "None" }},
		{"(case (Nil) ((Cons x r) 1) ((Nil) 0))", api.ErrTwice, func(x *api.Expr) { x.Arms[0].Vars[1] = "x"; x.Arms = x.Arms[:1] }},
		{"(case (Nil) ((Cons x r) 1) ((Nil) 0))", api.ErrTwice, func(x *api.Expr) { x.Arms[0].Vars[1] = "x"; x.Arms[1].Vars = []string{"y"} }},
		{"(case (Nil) ((Cons x r) 1) ((Nil) 0))", api.ErrUnknown, func(x *api.Expr) { unknown(nested(x)); x.Type = typ(-1) }},
		{"(case (Nil) ((Cons x r) 1) ((Nil) 0))", api.ErrForm, func(x *api.Expr) { x.Type = typ(-1) }},
		{"(case (raise no 0) ((Cons x r) 1) ((Nil) 0))", api.ErrMismatch, func(x *api.Expr) { x.Kids[0].Type = integer; x.Arms = x.Arms[:1] }},
		{"(handle 1 (no x 1) (Div x 1))", api.ErrUnknown, func(x *api.Expr) { x.Arms[1].Name = "none"; wrong(nested(x)) }},
		{"(handle 1 (no x 1) (Div x 1))", api.ErrArms, func(x *api.Expr) { x.Arms[1].Name = "no"; wrong(nested(x)) }},
		{"(handle 1 (no x 1) (Div x 1))", api.ErrUnknown, func(x *api.Expr) { x.Arms[0].Name, x.Arms[1].Name = "none", "none" }},
		{"(handle 1 (no x 1) (Div x 1))", api.ErrMismatch, func(x *api.Expr) { x.Arms[1].Name = "no"; wrong(&x.Kids[0]) }},
		{"(handle 1 (no x 1) (Div x 1))", api.ErrUnknown, func(x *api.Expr) { unknown(nested(x)); x.Type = typ(-1) }},
		{"(handle 1 (no x x))", api.ErrMismatch, func(x *api.Expr) { nested(x).Type = boolean }},
	})
	const later = "(unit a (fun f () 0)) | (unit m (use a) (fun g () (f)) (fun h () (g)) (fun main () 0))"
	checkChanges(t, strings.Split(later, " | "), []change{
		{"a call of a unit behind", api.ErrUse, func(p *api.Typed) { p.Funs[0].Body = p.Funs[2].Body }},
		{"a call of a unit behind with too many arguments", api.ErrUse, func(p *api.Typed) {
			p.Funs[0].Body = p.Funs[2].Body
			p.Funs[0].Body.Kids = make([]api.Expr, 1)
		}},
		{"a call of a function behind in the same unit", api.OK, func(p *api.Typed) { p.Funs[1].Body = p.Funs[2].Body }},
		{"the first body first", api.ErrUse, func(p *api.Typed) { p.Funs[0].Body, p.Funs[1].Body.Kind = p.Funs[2].Body, -1 }},
		{"a result", api.ErrMismatch, func(p *api.Typed) { p.Funs[0].Scheme.Result, p.Funs[1].Body.Kind = boolean, -1 }},
	})
}
