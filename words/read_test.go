package words_test

import (
	"reflect"
	"strings"
	"testing"

	"heriot/api"
	"heriot/words"
)

// refusal is a text in which a § (which is taken away) marks the byte of the error, and the error.
type refusal struct {
	e    api.Errno
	text string
}

const mark = "§"

func checkRefusals(t *testing.T, list []refusal) {
	t.Helper()
	for _, c := range list {
		at := strings.Index(c.text, mark)
		text := strings.Replace(c.text, mark, "", 1)
		u, r := words.Read(text)
		if want := (api.Refusal{E: c.e, At: at}); r != want {
			t.Errorf("Read(%q): %+v, not %+v", text, r, want)
		}
		if !reflect.DeepEqual(u, api.Unit{}) {
			t.Errorf("Read(%q): a unit together with a refusal: %+v", text, u)
		}
	}
}

// inBody is a list of refusals of expressions, each as the body of a function.
func inBody(list []refusal) []refusal {
	var out []refusal
	for _, c := range list {
		out = append(out, refusal{c.e, "(unit m (fun f (x) " + c.text + "))"})
	}
	return out
}

func TestReadExample(t *testing.T) {
	u, r := words.Read("(unit m\n (fun main (n) (+ n 1)))")
	body := api.Expr{Kind: api.EAdd, At: 23, Kids: []api.Expr{{Kind: api.EName, At: 26, Name: "n"}, {Kind: api.EInt, At: 28, Int: 1}}}
	f := api.FunDecl{Name: "main", At: 14, Params: []string{"n"}, Body: body}
	want := api.Unit{Name: "m", Decls: []api.Decl{{Kind: api.DFuns, At: 9, Funs: []api.FunDecl{f}}}}
	if r != (api.Refusal{}) || !reflect.DeepEqual(tidy(u), want) {
		t.Errorf("Read: %+v, %+v, not %+v", u, r, want)
	}
}

func TestReadRefusesBytes(t *testing.T) {
	checkRefusals(t, []refusal{
		{api.ErrChar, "(unit m §\x01)"},
		{api.ErrChar, "§\x00"},
		{api.ErrChar, "(unit m) ; a comment\x20§\x7f"},
		{api.ErrChar, ")(x §\v"},
		{api.ErrChar, "(unit m§\f)"},
		{api.ErrChar, "(unit m§\xff)"},
		{api.ErrChar, "(unit m§é)"},
		{api.ErrChar, "(unit m§\x80\x01)"},
		{api.ErrChar, "§\ufffd"},
		{api.ErrBig, "§" + strings.Repeat(" ", api.MaxText+1)},
		{api.ErrBig, "§\x01" + strings.Repeat(")", api.MaxText)},
		{api.ErrClose, strings.Repeat(" ", api.MaxText) + "§"},
	})
}

func TestReadRefusesParentheses(t *testing.T) {
	deepest := strings.Repeat("(", api.MaxDepth)
	checkRefusals(t, []refusal{
		{api.ErrClose, "§"},
		{api.ErrClose, " \t\r\n§"},
		{api.ErrClose, "; (unit m)§"},
		{api.ErrClose, "§x"},
		{api.ErrClose, "§)"},
		{api.ErrClose, "§)\n(unit m)"},
		{api.ErrClose, "§unit (unit m)"},
		{api.ErrClose, "(unit m)§)"},
		{api.ErrClose, "(unit m) §x"},
		{api.ErrClose, "(unit m)§x"},
		{api.ErrClose, "(unit m)§("},
		{api.ErrClose, "(unit m) ; x\n§(unit m)"},
		{api.ErrClose, "(unit m§"},
		{api.ErrClose, "(unit m ;)§"},
		{api.ErrClose, "(((a) b)§"},
		{api.ErrClose, "(X 007 ())§)"},
		{api.ErrClose, deepest + "§"},
		{api.ErrDeep, deepest + "§("},
		{api.ErrDeep, deepest + "§(" + strings.Repeat(")", 99)},
		{api.ErrDeep, "(a" + strings.Repeat("(", api.MaxDepth-1) + "§(x"},
		{api.ErrClose, "()§)" + deepest + "("},
	})
}

func TestReadRefusesUnits(t *testing.T) {
	checkRefusals(t, []refusal{
		{api.ErrForm, "§()"},
		{api.ErrForm, "§(unit)"},
		{api.ErrForm, "(§x)"},
		{api.ErrForm, "(§unity m)"},
		{api.ErrForm, "(§())"},
		{api.ErrForm, "(§(unit) m)"},
		{api.ErrName, "(unit §unit)"},
		{api.ErrName, "(unit §M)"},
		{api.ErrName, "(unit §5)"},
		{api.ErrName, "(unit §_m)"},
		{api.ErrName, "(unit §a-b)"},
		{api.ErrName, "(unit §" + strings.Repeat("a", 33) + ")"},
		{api.ErrName, "(unit §Div)"},
		{api.ErrForm, "(unit §(m))"},
		{api.ErrForm, "(unit m §x)"},
		{api.ErrForm, "(unit m §use l)"},
		{api.ErrForm, "(unit m §())"},
		{api.ErrForm, "(unit m (§()))"},
		{api.ErrForm, "(unit m (§(use) l))"},
		{api.ErrForm, "(unit m §(use))"},
		{api.ErrForm, "(unit m §(use a b))"},
		{api.ErrForm, "(unit m (use §(a)))"},
		{api.ErrName, "(unit m (use §A))"},
		{api.ErrName, "(unit m (use §fun) x)"},
		{api.ErrForm, "(unit m (use a) §x)"},
		{api.ErrForm, "(unit m (exception e) (§use a))"},
		{api.ErrForm, "(unit m (§use2 a))"},
		{api.ErrForm, "(unit m (§unit a))"},
		{api.ErrForm, "(unit m (§Fun f () 1))"},
		{api.ErrForm, "(unit m (§let f () 1))"},
	})
}

func TestReadRefusesData(t *testing.T) {
	checkRefusals(t, []refusal{
		{api.ErrForm, "(unit m §(data))"},
		{api.ErrForm, "(unit m §(data 5 ()))"},
		{api.ErrForm, "(unit m (data §(d) () (C)))"},
		{api.ErrName, "(unit m (data §D () (C)))"},
		{api.ErrForm, "(unit m (data d §a (C)))"},
		{api.ErrForm, "(unit m (data d (a §(b)) (C)))"},
		{api.ErrForm, "(unit m (data d (§()) (C)))"},
		{api.ErrName, "(unit m (data d (a §B) C))"},
		{api.ErrName, "(unit m (data d (§int) C))"},
		{api.ErrForm, "(unit m (data d () §C))"},
		{api.ErrForm, "(unit m (data d () (C) §()))"},
		{api.ErrForm, "(unit m (data d () (§(C))))"},
		{api.ErrName, "(unit m (data d () (§c)))"},
		{api.ErrName, "(unit m (data d () (§" + strings.Repeat("C", 33) + ")))"},
		{api.ErrName, "(unit m (data d () (C §X) D))"},
		{api.ErrForm, "(unit m (data d () (C int) (D §())))"},
		{api.ErrForm, "(unit m §(exception))"},
		{api.ErrForm, "(unit m §(exception a b))"},
		{api.ErrForm, "(unit m (exception §(a)))"},
		{api.ErrName, "(unit m (exception §Div))"},
		{api.ErrName, "(unit m (exception §Index))"},
		{api.ErrName, "(unit m (exception §raise))"},
	})
}

func TestReadRefusesFunctions(t *testing.T) {
	checkRefusals(t, []refusal{
		{api.ErrForm, "(unit m §(fun))"},
		{api.ErrForm, "(unit m §(fun F ()))"},
		{api.ErrForm, "(unit m §(fun f () int 1 2))"},
		{api.ErrForm, "(unit m (fun §(f) () 1))"},
		{api.ErrName, "(unit m (fun §F x 1))"},
		{api.ErrForm, "(unit m (fun f §x 1))"},
		{api.ErrForm, "(unit m §(fun f (x) int 1))"},
		{api.ErrForm, "(unit m §(fun f (X) int 1))"},
		{api.ErrForm, "(unit m §(fun f ((y int)) y))"},
		{api.ErrForm, "(unit m §(fun f (()) y))"},
		{api.ErrForm, "(unit m (fun f (x §(y int)) x))"},
		{api.ErrForm, "(unit m (fun f (x §()) x))"},
		{api.ErrName, "(unit m (fun f (x §Y (z)) x))"},
		{api.ErrForm, "(unit m (fun f ((x int) §y) int x))"},
		{api.ErrForm, "(unit m (fun f (§()) int x))"},
		{api.ErrForm, "(unit m (fun f (§(x)) int x))"},
		{api.ErrForm, "(unit m (fun f (§(x int int)) int x))"},
		{api.ErrForm, "(unit m (fun f ((§(x) int)) int x))"},
		{api.ErrName, "(unit m (fun f ((§X Int)) int x))"},
		{api.ErrName, "(unit m (fun f ((x §Int)) int x))"},
		{api.ErrName, "(unit m (fun f () §5 X))"},
		{api.ErrName, "(unit m (fun f () int §X))"},
		{api.ErrForm, "(unit m §(funs))"},
		{api.ErrForm, "(unit m §(funs (f () 1)))"},
		{api.ErrForm, "(unit m §(funs X))"},
		{api.ErrForm, "(unit m (funs §f (g () 1)))"},
		{api.ErrForm, "(unit m (funs §() (g () 1)))"},
		{api.ErrForm, "(unit m (funs (f () 1) §(F ())))"},
		{api.ErrForm, "(unit m (funs (f () 1) §(f () int 1 2)))"},
		{api.ErrForm, "(unit m (funs (f () 1) (§(f) () 1)))"},
		{api.ErrForm, "(unit m (funs (f () 1) §(g (x) int 1)))"},
		{api.ErrForm, "(unit m (funs §(f ((x int)) 1) (g () 1)))"},
		{api.ErrName, "(unit m (funs (§fun f () 1) (g () 1)))"},
		{api.ErrForm, "(unit m (funs (f () 1) §g))"},
	})
}

func TestReadRefusesTypes(t *testing.T) {
	for _, c := range []refusal{
		{api.ErrName, "§Int"}, {api.ErrName, "§5"}, {api.ErrName, "§ref"}, {api.ErrName, "§*"}, {api.ErrName, "§->"}, {api.ErrName, "§true"},
		{api.ErrForm, "§()"}, {api.ErrForm, "(§(list) int)"}, {api.ErrForm, "(§())"},
		{api.ErrForm, "§(*)"}, {api.ErrForm, "§(* X)"}, {api.ErrForm, "§(-> int)"}, {api.ErrForm, "§(-> int int X)"},
		{api.ErrForm, "§(ref)"}, {api.ErrForm, "§(ref int int)"}, {api.ErrForm, "§(array)"}, {api.ErrForm, "§(array X X)"},
		{api.ErrName, "(§int)"}, {api.ErrName, "(§unit a)"}, {api.ErrName, "(§List a)"}, {api.ErrName, "(§+ a a)"}, {api.ErrName, "(§5 X)"}, {api.ErrName, "(§tuple a a)"},
		{api.ErrName, "(list a §B)"}, {api.ErrName, "(* int (-> a §7) X)"}, {api.ErrForm, "(-> int (ref §()))"},
	} {
		checkRefusals(t, []refusal{
			{c.e, "(unit m (fun f ((x " + c.text + ")) int 007))"},
			{c.e, "(unit m (fun f () " + c.text + " 007))"},
			{c.e, "(unit m (data d (a) (C int " + c.text + " X)))"},
		})
	}
}

func TestReadRefusesWords(t *testing.T) {
	var list []refusal
	for _, w := range strings.Fields("007 00 01 -0 -01 -x 1x 1-1 -- -> 0x1 -1a 1_0 9223372036854775808 -9223372036854775809 99999999999999999999999") {
		e := api.ErrNumber
		if w == "->" {
			e = api.ErrName
		}
		list = append(list, refusal{e, mark + w})
	}
	for _, w := range strings.Fields("- + * = < / % X Div let tuple int bool fun use _x x' x.y #x " + strings.Repeat("x", 33)) {
		list = append(list, refusal{api.ErrName, mark + w})
	}
	checkRefusals(t, inBody(list))
}

func TestReadRefusesExpressions(t *testing.T) {
	var list []refusal
	for _, w := range strings.Fields("unit use data exception fun funs true false int bool") {
		list = append(list, refusal{api.ErrForm, "(§" + w + " x)"})
	}
	for _, w := range strings.Fields("5 -5 -> > == 'x _f f! -x " + strings.Repeat("f", 33) + " " + strings.Repeat("C", 33)) {
		list = append(list, refusal{api.ErrName, "(§" + w + " x)"})
	}
	counts := map[int]string{
		0: "ref deref len print if put set array at seq call let fn get raise handle case tuple + - * / % = <",
		1: "set array at seq call let fn get raise case tuple + - * / % = < if put",
		2: "ref deref len print if put let",
		3: "ref deref len print set array at seq call fn get raise + - * / % = <",
		4: "let if put fn raise get",
	}
	for n, heads := range counts {
		for _, w := range strings.Fields(heads) {
			list = append(list, refusal{api.ErrForm, "§(" + w + strings.Repeat(" X", n) + ")"})
		}
	}
	list = append(list, []refusal{
		{api.ErrForm, "§()"}, {api.ErrForm, "(§())"}, {api.ErrForm, "(§(f) x)"},
		{api.ErrName, "(f x §X 007)"}, {api.ErrName, "(C x §X)"}, {api.ErrName, "(tuple §X 007)"},
		{api.ErrForm, "(get §(0) X)"}, {api.ErrForm, "(get §() X)"}, {api.ErrNumber, "(get §x X)"}, {api.ErrNumber, "(get §1000 X)"},
		{api.ErrNumber, "(get §-1 X)"}, {api.ErrNumber, "(get §00 X)"}, {api.ErrNumber, "(get §9223372036854775808 X)"}, {api.ErrName, "(get 999 §X)"},
		{api.ErrForm, "(let §(x) X X)"}, {api.ErrName, "(let §X X X)"}, {api.ErrName, "(let x §X 007)"}, {api.ErrNumber, "(let x x §007)"},
		{api.ErrForm, "(fn §(x) X)"}, {api.ErrName, "(fn §if X)"}, {api.ErrName, "(fn x §X)"},
		{api.ErrForm, "(raise §(x) X)"}, {api.ErrName, "(raise §X X)"}, {api.ErrName, "(raise §Divs X)"}, {api.ErrName, "(raise §raise X)"}, {api.ErrName, "(raise Index §X)"},
		{api.ErrName, "(+ (* 1 §X) ())"}, {api.ErrForm, "(if x §() X)"}, {api.ErrName, "(put a i §V)"},
	}...)
	checkRefusals(t, inBody(list))
}

func TestReadRefusesArms(t *testing.T) {
	checkRefusals(t, inBody([]refusal{
		{api.ErrForm, "§(case X)"},
		{api.ErrName, "(case §X x)"},
		{api.ErrForm, "(case x §x)"},
		{api.ErrForm, "(case x §())"},
		{api.ErrForm, "(case x §(c))"},
		{api.ErrForm, "(case x §((c) x x))"},
		{api.ErrForm, "(case x (§C X))"},
		{api.ErrForm, "(case x (§() X))"},
		{api.ErrForm, "(case x ((§(C)) X))"},
		{api.ErrName, "(case x ((§c) X))"},
		{api.ErrName, "(case x ((§5) X))"},
		{api.ErrName, "(case x ((C §X) X))"},
		{api.ErrForm, "(case x ((C y §(z)) X))"},
		{api.ErrName, "(case x ((C y z) §X) x)"},
		{api.ErrForm, "(case x ((C y z) x) §x)"},
		{api.ErrForm, "§(handle)"},
		{api.ErrName, "(handle §X x)"},
		{api.ErrForm, "(handle x §x)"},
		{api.ErrForm, "(handle x §())"},
		{api.ErrForm, "(handle x §(X v))"},
		{api.ErrForm, "(handle x §(X v x x))"},
		{api.ErrForm, "(handle x (§(e) v x))"},
		{api.ErrName, "(handle x (§E v x))"},
		{api.ErrName, "(handle x (e §V X))"},
		{api.ErrForm, "(handle x (e §(v) X))"},
		{api.ErrName, "(handle x (e v §X) x)"},
		{api.ErrName, "(handle x (Size v x) (§Sizes v x))"},
	}))
}

// TestReadTakes: one text with every form of the grammar, and what each is.
func TestReadTakes(t *testing.T) {
	in := func(name string) api.Expr { return api.Expr{Kind: api.EName, Name: name} }
	x := in("x")
	for text, want := range map[string]api.Expr{
		"0":                     {Kind: api.EInt},
		"-1":                    {Kind: api.EInt, Int: -1},
		"9223372036854775807":   {Kind: api.EInt, Int: 1<<63 - 1},
		"-9223372036854775808":  {Kind: api.EInt, Int: -1 << 63},
		"true":                  {Kind: api.EBool, Int: 1},
		"false":                 {Kind: api.EBool},
		"unit":                  {Kind: api.EUnit},
		"x":                     x,
		"a_B9_":                 in("a_B9_"),
		"units":                 in("units"),
		strings.Repeat("x", 32): in(strings.Repeat("x", 32)),
		"(f)":                   {Kind: api.ECall, Name: "f"},
		"(f x x)":               {Kind: api.ECall, Name: "f", Kids: []api.Expr{x, x}},
		"(C)":                   {Kind: api.EMake, Name: "C"},
		"(Div x)":               {Kind: api.EMake, Name: "Div", Kids: []api.Expr{x}},
		"(tuple x x x)":         {Kind: api.ETuple, Kids: []api.Expr{x, x, x}},
		"(get 999 x)":           {Kind: api.EGet, Int: 999, Kids: []api.Expr{x}},
		"(get 0 x)":             {Kind: api.EGet, Kids: []api.Expr{x}},
		"(let y x x)":           {Kind: api.ELet, Name: "y", Kids: []api.Expr{x, x}},
		"(if x x x)":            {Kind: api.EIf, Kids: []api.Expr{x, x, x}},
		"(case x ((C) x) ((D y z) x))": {Kind: api.ECase, Kids: []api.Expr{x}, Arms: []api.Arm{
			{Name: "C", Body: x}, {Name: "D", Vars: []string{"y", "z"}, Body: x}}},
		"(fn y x)":        {Kind: api.EFn, Name: "y", Kids: []api.Expr{x}},
		"(call x x)":      {Kind: api.EApply, Kids: []api.Expr{x, x}},
		"(ref x)":         {Kind: api.ERef, Kids: []api.Expr{x}},
		"(deref x)":       {Kind: api.EDeref, Kids: []api.Expr{x}},
		"(set x x)":       {Kind: api.ESet, Kids: []api.Expr{x, x}},
		"(array x x)":     {Kind: api.EArray, Kids: []api.Expr{x, x}},
		"(at x x)":        {Kind: api.EAt, Kids: []api.Expr{x, x}},
		"(put x x x)":     {Kind: api.EPut, Kids: []api.Expr{x, x, x}},
		"(len x)":         {Kind: api.ELen, Kids: []api.Expr{x}},
		"(raise Div x)":   {Kind: api.ERaise, Name: "Div", Kids: []api.Expr{x}},
		"(raise Index x)": {Kind: api.ERaise, Name: "Index", Kids: []api.Expr{x}},
		"(raise e x)":     {Kind: api.ERaise, Name: "e", Kids: []api.Expr{x}},
		"(handle x)":      {Kind: api.EHandle, Kids: []api.Expr{x}},
		"(handle x (Size v x) (e w x))": {Kind: api.EHandle, Kids: []api.Expr{x}, Arms: []api.Arm{
			{Name: "Size", Vars: []string{"v"}, Body: x}, {Name: "e", Vars: []string{"w"}, Body: x}}},
		"(print x)": {Kind: api.EPrint, Kids: []api.Expr{x}},
		"(seq x x)": {Kind: api.ESeq, Kids: []api.Expr{x, x}},
		"(+ x x)":   {Kind: api.EAdd, Kids: []api.Expr{x, x}},
		"(- x x)":   {Kind: api.ESub, Kids: []api.Expr{x, x}},
		"(* x x)":   {Kind: api.EMul, Kids: []api.Expr{x, x}},
		"(/ x x)":   {Kind: api.EDiv, Kids: []api.Expr{x, x}},
		"(% x x)":   {Kind: api.EMod, Kids: []api.Expr{x, x}},
		"(= x x)":   {Kind: api.EEq, Kids: []api.Expr{x, x}},
		"(< x x)":   {Kind: api.ELess, Kids: []api.Expr{x, x}},
	} {
		u, r := words.Read("(unit m (fun f () " + text + "))")
		f := api.FunDecl{Name: "f", Body: want}
		checkRead(t, text, u, r, api.Decl{Kind: api.DFuns, Funs: []api.FunDecl{f}})
	}
}

// TestReadLetters: which bytes a name has, at its begin and behind it.
func TestReadLetters(t *testing.T) {
	for c := byte('!'); c <= '~'; c++ {
		small, great := c >= 'a' && c <= 'z', c >= 'A' && c <= 'Z'
		if c == '(' || c == ')' || c == ';' {
			continue
		}
		checkLetter(t, "(exception "+string(c)+"b)", small)
		checkLetter(t, "(data d () ("+string(c)+"b))", great)
		behind := small || great || c >= '0' && c <= '9' || c == '_'
		checkLetter(t, "(exception x"+string(c)+"x)", behind)
		checkLetter(t, "(data d () (X"+string(c)+"))", behind)
	}
}

func checkLetter(t *testing.T, declaration string, ok bool) {
	t.Helper()
	want := api.Errno(api.OK)
	if !ok {
		want = api.ErrName
	}
	if _, r := words.Read("(unit m " + declaration + ")"); r.E != want {
		t.Errorf("Read with %q: %+v, not %d", declaration, r, want)
	}
}

func checkRead(t *testing.T, text string, u api.Unit, r api.Refusal, want ...api.Decl) {
	t.Helper()
	if got := withoutAt(u); r != (api.Refusal{}) || !reflect.DeepEqual(got, api.Unit{Name: "m", Decls: want}) {
		t.Errorf("Read with %q: %+v, %+v, not %+v", text, got, r, want)
	}
}

func TestReadTakesDeclarations(t *testing.T) {
	a, num := api.Type{Kind: api.TVar, Name: "a"}, api.Type{}
	one := api.Expr{Int: 1}
	note := func(k int, args ...api.Type) api.FunDecl {
		return api.FunDecl{Name: "f", Params: []string{"x"}, Noted: true, Types: []api.Type{{Kind: k, Args: args}}, Body: one}
	}
	list := note(api.TData, a, num)
	list.Types[0].Name = "list"
	bare := note(api.TData)
	bare.Types[0].Name = "d"
	for text, want := range map[string]api.Decl{
		"(exception e)":   {Kind: api.DExn, Exn: "e"},
		"(data d () (C))": {Data: api.Data{Name: "d", Cons: []api.Con{{Name: "C"}}}},
		"(data d (a b) (C a int) (D))": {Data: api.Data{Name: "d", Vars: []string{"a", "b"}, Cons: []api.Con{
			{Name: "C", Fields: []api.Type{a, num}}, {Name: "D"}}}},
		"(fun f () 1)":                           {Kind: api.DFuns, Funs: []api.FunDecl{{Name: "f", Body: one}}},
		"(fun f () int 1)":                       {Kind: api.DFuns, Funs: []api.FunDecl{{Name: "f", Noted: true, Body: one}}},
		"(fun f (x y) 1)":                        {Kind: api.DFuns, Funs: []api.FunDecl{{Name: "f", Params: []string{"x", "y"}, Body: one}}},
		"(fun f ((x (* a a int))) int 1)":        {Kind: api.DFuns, Funs: []api.FunDecl{note(api.TTuple, a, a, num)}},
		"(fun f ((x (-> a int))) int 1)":         {Kind: api.DFuns, Funs: []api.FunDecl{note(api.TArrow, a, num)}},
		"(fun f ((x (ref a))) int 1)":            {Kind: api.DFuns, Funs: []api.FunDecl{note(api.TRef, a)}},
		"(fun f ((x (array a))) int 1)":          {Kind: api.DFuns, Funs: []api.FunDecl{note(api.TArray, a)}},
		"(fun f ((x bool)) int 1)":               {Kind: api.DFuns, Funs: []api.FunDecl{note(api.TBool)}},
		"(fun f ((x unit)) int 1)":               {Kind: api.DFuns, Funs: []api.FunDecl{note(api.TUnit)}},
		"(fun f ((x (list a int))) int 1)":       {Kind: api.DFuns, Funs: []api.FunDecl{list}},
		"(funs (f ((x (d))) int 1) (f () 1))":    {Kind: api.DFuns, Funs: []api.FunDecl{bare, {Name: "f", Body: one}}},
		"(funs (f () 1) (f () int 1) (f () 1))":  {Kind: api.DFuns, Funs: []api.FunDecl{{Name: "f", Body: one}, {Name: "f", Noted: true, Body: one}, {Name: "f", Body: one}}},
		"(funs (f (x)1)(f((x (d)))int 1);end\n)": {Kind: api.DFuns, Funs: []api.FunDecl{{Name: "f", Params: []string{"x"}, Body: one}, bare}},
	} {
		u, r := words.Read("(unit m " + text + ")")
		checkRead(t, text, u, r, want)
	}
	u, r := words.Read("(unit m (use a) (use a) (exception e))")
	if got := withoutAt(u); r.E != api.OK || !reflect.DeepEqual(got.Uses, []string{"a", "a"}) || len(got.Decls) != 1 {
		t.Errorf("Read with uses: %+v, %+v", got, r)
	}
}

// TestReadPlaces: each At in a text with blanks of all sorts.
func TestReadPlaces(t *testing.T) {
	u, r := words.Read(" (unit m;c\n (funs(f(x)x)\t( g () int (case x (( C y ) -5)))))")
	if r.E != api.OK {
		t.Fatalf("Read: %+v", r)
	}
	d := u.Decls[0]
	g := d.Funs[1].Body
	got := []int{d.At, d.Funs[0].At, d.Funs[0].Body.At, d.Funs[1].At, g.At, g.Kids[0].At, g.Arms[0].Body.At}
	if want := []int{12, 18, 22, 27, 36, 42, 53}; !reflect.DeepEqual(got, want) {
		t.Errorf("places %v, not %v", got, want)
	}
}

func TestReadLimits(t *testing.T) {
	text := "(unit m)"
	if _, r := words.Read(text + strings.Repeat(" ", api.MaxText-len(text))); r != (api.Refusal{}) {
		t.Errorf("a text of MaxText bytes: %+v", r)
	}
	deep := strings.Repeat("(f ", api.MaxDepth-2) + "x" + strings.Repeat(")", api.MaxDepth-2)
	if _, r := words.Read("(unit m (fun f () " + deep + "))"); r != (api.Refusal{}) {
		t.Errorf("a form of depth MaxDepth: %+v", r)
	}
}
