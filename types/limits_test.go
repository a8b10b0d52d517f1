package types_test

import (
	"strconv"
	"strings"
	"testing"

	"heriot/api"
	"heriot/types"
)

// sum is an expression of so many nodes, an odd number.
func sum(nodes int) string {
	if nodes == 1 {
		return "0"
	}
	left := (nodes - 1) / 2
	left -= 1 - left%2
	return "(+ " + sum(left) + " " + sum(nodes-1-left) + ")"
}

// wide is a tuple whose type has so many nodes.
func wide(nodes int) string {
	return "(tuple" + strings.Repeat(" 0", nodes-1) + ")"
}

// refs is a value in so many refs.
func refs(n int, value string) string {
	return strings.Repeat("(ref ", n) + value + strings.Repeat(")", n)
}

func TestMostUnits(t *testing.T) {
	var texts []string
	for i := range api.MaxUnits - 1 {
		texts = append(texts, "(unit u"+strconv.Itoa(i)+")")
	}
	texts = append(texts, "(unit last (fun main () 0))")
	units := readUnits(t, texts...)
	checkRefusal(t, "as many units as there may be", units, api.Refusal{})
	checkRefusal(t, "too many units", append(units, api.Unit{Name: "M"}), api.Refusal{E: api.ErrBig})
}

// TestNoTrees: units that no text has.
func TestNoTrees(t *testing.T) {
	fine := readUnits(t, "(unit a)", "(unit a)")
	withBody := func(e api.Expr) api.Unit {
		return api.Unit{Name: "b", Decls: []api.Decl{{Kind: api.DFuns, Funs: []api.FunDecl{{Name: "f", Body: e}}}}}
	}
	deep := api.Expr{}
	for range api.MaxDepth {
		deep = api.Expr{Kind: api.EPrint, Kids: []api.Expr{deep}}
	}
	endless := make([]api.Expr, 1)
	endless[0] = api.Expr{Kind: api.EPrint, Kids: endless}
	long := api.Unit{Name: "b"}
	for i := range 4000 {
		long.Decls = append(long.Decls, api.Decl{Kind: api.DExn, Exn: "exception" + strconv.Itoa(i)})
	}
	for _, c := range []struct {
		e api.Errno
		u api.Unit
	}{
		{api.ErrName, api.Unit{}},
		{api.ErrName, api.Unit{Name: "B"}},
		{api.ErrForm, api.Unit{Name: "b", Decls: []api.Decl{{Kind: 3}}}},
		{api.ErrForm, withBody(api.Expr{Kind: -1})},
		{api.ErrForm, withBody(api.Expr{Kind: api.EIf})},
		{api.ErrForm, withBody(api.Expr{Type: boolean})},
		{api.ErrForm, withBody(api.Expr{Inst: []api.Type{integer}})},
		{api.ErrForm, api.Unit{Name: "b", Decls: []api.Decl{{Kind: api.DFuns, Funs: []api.FunDecl{{Name: "f", Types: []api.Type{integer}}}}}}},
		{api.ErrNumber, withBody(api.Expr{Kind: api.EGet, Int: 1000, Kids: make([]api.Expr, 1)})},
		{api.ErrName, withBody(api.Expr{Kind: api.EName, Name: "tuple"})},
		{api.ErrDeep, withBody(deep)},
		{api.ErrDeep, withBody(endless[0])},
		{api.ErrBig, long},
	} {
		units := append(append([]api.Unit{}, fine...), c.u)
		checkRefusal(t, "a unit that is none", units, api.Refusal{E: c.e, Unit: 2})
		// The two units of one name are refused behind all that are none.
		units[2] = fine[0]
		checkRefusal(t, "two of one name", units, api.Refusal{E: api.ErrUse, Unit: 1})
	}
}

// TestMostNodes: expressions, arms and written types count at first, and the types of schemes at last.
func TestMostNodes(t *testing.T) {
	const last = "(unit n (fun main () 0))"       // a node, and one of its scheme
	const twice = "(unit n (fun §f () 0))"        // an error that is looked for behind the number of the nodes
	const never = "(unit n (fun f () (seq 0 0)))" // the same, which is never found, since there are too many nodes
	f := func(params string, nodes int) string {
		return "(unit m (fun f " + params + " " + sum(nodes) + "))"
	}
	handle := "(unit m (fun f () (handle 0 (Div x " + sum(api.MaxNodes-5) + "))))"
	data := "(unit m (data d () (C (ref int))) (fun f () " + sum(api.MaxNodes-3) + "))"
	checkRefusals(t, []refused{
		refuses(api.OK, "(unit m (fun main () "+sum(api.MaxNodes-1)+"))"),
		refuses(api.OK, "(unit m (fun main () int "+sum(api.MaxNodes-1)+"))"),
		refuses(api.ErrBig, "(unit m (fun main (n) "+sum(api.MaxNodes-1)+"))"),
		refuses(api.OK, f("()", api.MaxNodes-5), last),
		refuses(api.ErrBig, f("(x)", api.MaxNodes-3), last),
		refuses(api.ErrTwice, f("()", api.MaxNodes-1), twice),
		refuses(api.ErrBig, f("()", api.MaxNodes-1), never),
		refuses(api.ErrTwice, f("((x int)) int", api.MaxNodes-3), twice),
		refuses(api.ErrBig, f("((x int)) int", api.MaxNodes-3), never),
		refuses(api.ErrTwice, f("((x (ref (ref int)))) int", api.MaxNodes-5), twice),
		refuses(api.ErrBig, f("((x (ref (ref int)))) int", api.MaxNodes-5), never),
		refuses(api.ErrTwice, handle, twice),
		refuses(api.ErrBig, handle, never),
		refuses(api.ErrTwice, data, twice),
		refuses(api.ErrBig, data, never),
	})
}

func TestMostNames(t *testing.T) {
	program := func(exns int) []string {
		var texts []string
		for i := 0; i < exns; i += 3000 {
			text := "(unit u" + strconv.Itoa(i)
			for j := i; j < min(i+3000, exns); j++ {
				text += "(exception e" + strconv.Itoa(j) + ")"
			}
			texts = append(texts, text+")")
		}
		return append(texts, "(unit m (data d (a) (C)) (fun main (n) 0))")
	}
	// Three exceptions that every program has, a data type with a variable and a constructor, and a function with a parameter.
	most := api.MaxNodes - 3 - 3 - 2
	refuses(api.OK, program(most)...).check(t)
	refuses(api.ErrBig, program(most+1)...).check(t)
	texts := program(most + 1)
	texts[len(texts)-1] = "(unit m (data d (a) (C)) (fun main (n) §x))"
	refuses(api.ErrUnknown, texts...).check(t)
}

// TestTooLarge: types of as many nodes and as deep as may be, and beyond that.
func TestTooLarge(t *testing.T) {
	const most = 256
	note := "(*" + strings.Repeat(" int", most-1) + ")"
	checkRefusals(t, []refused{
		refuses(api.OK, inBody("(seq "+wide(most)+" 0)")),
		refuses(api.ErrBig, inBody("(seq §"+wide(most+1)+" 0)")),
		refuses(api.ErrBig, inBody("(seq §(ref "+wide(most)+") 0)")),
		refuses(api.ErrUnknown, inBody("(seq (ref (tuple §x "+wide(most)+")) 0)")),
		refuses(api.OK, inBody("(let x "+refs(32, "0")+" (seq "+refs(31, "x")+" 0))")),
		refuses(api.ErrBig, inBody("(let x "+refs(32, "0")+" (seq §"+refs(32, "x")+" 0))")),
		// Types that are small at their place, and too large at the end: of a parameter, of an expression, of what a call stands at.
		refuses(api.ErrBig, unitOf(common+"(fun §f (x y) (seq (same x (ref y)) (seq (same y "+wide(most)+") 0)))")),
		refuses(api.ErrBig, unitOf(common+"(fun f (x y) (seq (same x (ref y)) (seq (same y "+wide(most)+") §x)))")),
		refuses(api.ErrBig, unitOf(common+"(fun f (x) (seq §(ref x) (seq (same x "+wide(most)+") 0)))")),
		refuses(api.ErrBig, unitOf(common+"(fun k (x) 0) (fun f () (let y (raise no 0) (seq §(k (let x (raise no 0) (seq (same x (ref y)) x))) (seq (same y "+wide(most)+") 0))))")),
		refuses(api.ErrMismatch, unitOf(common+"(fun f (x) (seq (ref x) (seq (same x "+wide(most)+") (+ §true 0))))")),
		// Functions in turn, each with its body.
		refuses(api.ErrBig, unitOf(common+"(funs (f (x) (seq §(ref x) (seq (same x "+wide(most)+") 0))) (g ((x (ref "+note+"))) int 0))")),
		refuses(api.ErrBig, unitOf(common+"(funs (§g ((x (ref "+note+"))) int 0) (f (x) (seq (ref x) (seq (same x "+wide(most)+") 0))))")),
		// Written types.
		refuses(api.OK, unitOf("(fun f ((x "+note+")) int 0)")),
		refuses(api.ErrBig, unitOf("(fun §f ((x (ref "+note+"))) int 0)")),
		refuses(api.ErrBig, unitOf("(fun §f ((x int)) (ref "+note+") (raise Div 0))")),
		refuses(api.ErrMismatch, unitOf("(fun f ((x (ref "+note+"))) int §true)")),
		refuses(api.OK, unitOf("(data d () (C (ref "+note+")))")),
		refuses(api.ErrBig, unitOf("(data d () (C (ref "+note+"))) (fun f () (C §(raise Div 0)))")),
		refuses(api.OK, unitOf("(data d () (C (ref "+note+"))) (fun f (x) (case x ((C y) 0)))")),
		refuses(api.ErrBig, unitOf("(data d () (C (ref "+note+"))) (fun f (x) (case x ((C y) §y)))")),
	})
}

// chain is a program in whose function f the parameter x0 is a pair of x1, that one of x2, and so on, and y0 likewise: written out, their types would have more parts than could ever be looked at.
func chain(n int, behind string) string {
	xs, ys := names("x", n), names("y", n)
	asked, unused := []string{"(same p (tuple x0 y0))"}, []string{}
	for i := 1; i < n; i++ {
		asked = append(asked, "(same "+xs[i-1]+" (tuple "+xs[i]+" "+xs[i]+"))", "(same "+ys[i-1]+" (tuple "+ys[i]+" "+ys[i]+"))")
	}
	for range 2 * n {
		unused = append(unused, "(raise Div 0)")
	}
	all := strings.Join(append(xs, ys...), " ")
	same := "(fun same ((x a) (y a)) int 0) (fun many (" + strings.Join(names("b", len(asked)), " ") + ") 0)"
	pair := "(f (let u (raise Div 0) (tuple u u)) " + strings.Join(unused, " ") + ")"
	return unitOf(same + "(fun §f (p " + all + ") (let r 0 (seq (many " + strings.Join(asked, " ") + ") (seq " + pair + " " + behind + "))))")
}

func names(letter string, n int) []string {
	var list []string
	for i := range n {
		list = append(list, letter+strconv.Itoa(i))
	}
	return list
}

// TestExponential: types that grow exponentially are asked to be the same, looked through and counted in a time that does not.
func TestExponential(t *testing.T) {
	refuses(api.ErrBig, chain(500, "0")).check(t)
	refuses(api.ErrMismatch, strings.Replace(chain(500, "(+ §true 0)"), mark, "", 1)).check(t)
	lets := "0"
	for i := range 50 {
		pair := "(tuple x x)"
		if i == 42 { // from the inside: seven pairs of pairs have 255 nodes
			pair = mark + pair
		}
		lets = "(let x " + pair + " " + lets + ")"
	}
	refuses(api.ErrBig, inBody("(let x 0 "+lets+")")).check(t)
}

// TestVerifyMost: the limits of Verify, to the node.
func TestVerifyMost(t *testing.T) {
	fine := found(t, "(unit m (data d (a) (C a a)) (fun main () "+sum(api.MaxNodes-3)+"))")
	verifyAs(t, "as many nodes as may be", fine, api.OK)
	more := copied(fine)
	more.Datas[0].Cons[0].Fields[0] = typ(api.TRef, variable(0))
	verifyAs(t, "a node more", more, api.ErrBig)
	more.Exns[0], more.Main = "X", 7
	verifyAs(t, "a node more and other errors", more, api.ErrBig)
	arms := found(t, "(unit m (fun main () (handle 0 (Div x "+sum(api.MaxNodes-7)+"))))")
	arms.Funs[0].Body.Arms = append(arms.Funs[0].Body.Arms, api.Arm{Name: "Size", Vars: []string{"x"}})
	verifyAs(t, "two arms", arms, api.OK)
	arms.Funs[0].Body.Arms = append(arms.Funs[0].Body.Arms, api.Arm{Name: "Index", Vars: []string{"x"}})
	verifyAs(t, "three arms", arms, api.ErrBig)
	names := found(t, "(unit m (data d (a) (C)) (fun main (n) 0))")
	for len(names.Exns) < api.MaxNodes-5 {
		names.Exns = append(names.Exns, "e"+strconv.Itoa(len(names.Exns)))
	}
	verifyAs(t, "as many names as may be", names, api.OK)
	for _, change := range []func(p *api.Typed){
		func(p *api.Typed) { p.Exns = append(p.Exns, "X") },
		func(p *api.Typed) { p.Datas = append(p.Datas, api.Data{}) },
		func(p *api.Typed) { p.Datas[0].Vars = append(p.Datas[0].Vars, "") },
		func(p *api.Typed) { p.Datas[0].Cons = append(p.Datas[0].Cons, api.Con{}) },
		func(p *api.Typed) { p.Funs = append(p.Funs, api.TypedFun{}) },
		func(p *api.Typed) { p.Funs[0].Params = append(p.Funs[0].Params, "") },
	} {
		more := copied(names)
		change(&more)
		verifyAs(t, "a name more", more, api.ErrBig)
	}
}

func verifyAs(t *testing.T, what string, p api.Typed, want api.Errno) {
	t.Helper()
	if e := types.Verify(p); e != want {
		t.Errorf("Verify: %s: %d, not %d", what, e, want)
	}
}

// TestVerifyDeep: expressions and types that are nested as deep as may be, and deeper.
func TestVerifyDeep(t *testing.T) {
	nest := func(n int, inner api.Type) api.Type {
		for range n - 1 {
			inner = typ(api.TRef, inner)
		}
		return inner
	}
	endless := make([]api.Type, 2)
	endless[0], endless[1] = typ(api.TTuple, endless...), typ(api.TTuple, endless...)
	sums := func(depth int) api.Expr {
		e := api.Expr{}
		for range depth - 1 {
			e = api.Expr{Kind: api.EAdd, Kids: []api.Expr{e, {}}}
		}
		return e
	}
	handles := func(depth int) api.Expr {
		e := api.Expr{}
		for range depth - 1 {
			e = api.Expr{Kind: api.EHandle, Kids: make([]api.Expr, 1), Arms: []api.Arm{{Name: "Div", Vars: []string{"x"}, Body: e}}}
		}
		return e
	}
	self := make([]api.Expr, 1)
	self[0] = api.Expr{Kind: api.EPrint, Kids: self}
	const text = "(unit m (data d (a) (C a)) (fun f (x) (seq (id x) 0)) (fun main () 0))"
	for _, c := range []struct {
		what   string
		e      api.Errno
		change func(p *api.Typed)
	}{
		{"a field", api.OK, func(p *api.Typed) { p.Datas[0].Cons[0].Fields[0] = nest(64, integer) }},
		{"a deep field", api.ErrBig, func(p *api.Typed) { p.Datas[0].Cons[0].Fields[0] = nest(65, integer) }},
		{"a deep parameter", api.ErrBig, func(p *api.Typed) { p.Funs[1].Scheme.Params[0] = nest(65, integer) }},
		{"a deep result", api.ErrBig, func(p *api.Typed) { p.Funs[1].Scheme.Result = nest(65, integer) }},
		{"a deep type of an expression", api.ErrBig, func(p *api.Typed) { p.Funs[1].Body.Kids[0].Kids[0].Type = nest(65, integer) }},
		{"a deep instance", api.ErrBig, func(p *api.Typed) { p.Funs[1].Body.Kids[0].Inst[0] = nest(65, integer) }},
		{"an instance where none is", api.ErrBig, func(p *api.Typed) { p.Funs[1].Body.Inst = []api.Type{nest(65, integer)} }},
		{"an endless type", api.ErrBig, func(p *api.Typed) { p.Funs[1].Body.Type = endless[0] }},
		{"nested expressions", api.OK, func(p *api.Typed) { p.Funs[2].Body = sums(64) }},
		{"deep expressions", api.ErrBig, func(p *api.Typed) { p.Funs[2].Body = sums(65) }},
		{"nested arms", api.OK, func(p *api.Typed) { p.Funs[2].Body = handles(64) }},
		{"deep arms", api.ErrBig, func(p *api.Typed) { p.Funs[2].Body = handles(65) }},
		{"an endless expression", api.ErrBig, func(p *api.Typed) { p.Funs[2].Body = self[0] }},
	} {
		p := found(t, strings.Replace(text, "(fun f", "(fun id (x) x) (fun f", 1))
		c.change(&p)
		verifyAs(t, c.what, p, c.e)
	}
}
