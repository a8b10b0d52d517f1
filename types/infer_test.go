package types_test

import (
	"reflect"
	"strings"
	"testing"

	"heriot/api"
	"heriot/types"
)

func TestInferExample(t *testing.T) {
	const text = "(unit m (data list (a) (Nil) (Cons a (list a))) (fun len2 (l) (case l ((Nil) 0) ((Cons x r) (+ 1 (len2 r))))) (fun main (n) (len2 (Cons n (Nil)))))"
	p := found(t, text)
	list := func(a api.Type) api.Type { return data(0, a) }
	at := func(part string) int { return strings.LastIndex(text, part) }
	wantDatas := []api.Data{{Name: "list", Vars: []string{"a"}, Cons: []api.Con{{Name: "Nil"}, {Name: "Cons", Fields: []api.Type{variable(0), list(variable(0))}}}}}
	if !reflect.DeepEqual(copied(p.Datas), wantDatas) {
		t.Errorf("Datas: %+v", p.Datas)
	}
	if want := []string{"Div", "Index", "Size"}; !reflect.DeepEqual(p.Exns, want) || p.Main != 1 || len(p.Funs) != 2 {
		t.Errorf("Exns %v, Main %d", p.Exns, p.Main)
	}
	name := func(at int, s string, t api.Type) api.Expr {
		return api.Expr{Kind: api.EName, At: at, Name: s, Type: t}
	}
	call := api.Expr{Kind: api.ECall, At: at("(len2 r"), Name: "len2", Kids: []api.Expr{name(at("r))"), "r", list(variable(0)))}, Inst: []api.Type{variable(0)}}
	sum := api.Expr{Kind: api.EAdd, At: at("(+"), Kids: []api.Expr{{Kind: api.EInt, At: at("1 (len2"), Int: 1}, call}}
	arms := []api.Arm{{Name: "Nil", Body: api.Expr{Kind: api.EInt, At: at("0)")}}, {Name: "Cons", Vars: []string{"x", "r"}, Body: sum}}
	len2 := api.TypedFun{Name: "len2", Params: []string{"l"}, Scheme: api.Scheme{Vars: 1, Params: []api.Type{list(variable(0))}}}
	len2.Body = api.Expr{Kind: api.ECase, At: at("(case"), Kids: []api.Expr{name(at("l ((Nil"), "l", list(variable(0)))}, Arms: arms}
	if !reflect.DeepEqual(copied(p.Funs[0]), len2) {
		t.Errorf("len2: %+v, not %+v", p.Funs[0], len2)
	}
	none := api.Expr{Kind: api.EMake, At: at("(Nil)"), Name: "Nil", Type: list(integer), Inst: []api.Type{integer}}
	cons := api.Expr{Kind: api.EMake, At: at("(Cons n"), Name: "Cons", Kids: []api.Expr{name(at("n (Nil"), "n", integer), none}, Type: list(integer), Inst: []api.Type{integer}}
	main := api.TypedFun{Name: "main", Params: []string{"n"}, Scheme: api.Scheme{Params: []api.Type{integer}}}
	main.Body = api.Expr{Kind: api.ECall, At: at("(len2 (Cons"), Name: "len2", Kids: []api.Expr{cons}, Inst: []api.Type{integer}}
	if !reflect.DeepEqual(copied(p.Funs[1]), main) {
		t.Errorf("main: %+v, not %+v", p.Funs[1], main)
	}
}

// TestChapterExamples: the examples at the end of the chapter.
func TestChapterExamples(t *testing.T) {
	p := found(t, "(unit m (fun id (x) x) (fun main () (id 3)))")
	if s := p.Funs[0].Scheme; s.Vars != 1 || spellScheme(s, nil) != "(v00) v00" {
		t.Errorf("id: %+v", s)
	}
	p = found(t, "(unit m (fun f ((x a)) int (f (tuple x x))) (fun main () 0))")
	if inst := p.Funs[0].Body.Inst; len(inst) != 1 || spell(inst[0], nil) != "(* v00 v00)" {
		t.Errorf("the call at another type: %+v", inst)
	}
	p = found(t, "(unit m (fun k (x) 0) (fun main () (k (raise Size 1))))")
	call := p.Funs[1].Body
	if len(call.Inst) != 1 || call.Inst[0].Kind != api.TUnit || call.Kids[0].Type.Kind != api.TUnit {
		t.Errorf("a type that is still unknown: %+v", call)
	}
	checkRefusals(t, []refused{
		refuses(api.ErrMismatch, "(unit m (fun main (n) (let f (fn x x) (seq (call f 1) §(call f true)))))"),
		refuses(api.ErrEndless, "(unit m (fun f (x) (f §(tuple x x))) (fun main () 0))"),
		refuses(api.ErrNote, "(unit m (fun f ((x a)) a (+ §x 1)) (fun main () 0))"),
		refuses(api.ErrMismatch, "(unit m (fun main () (get 0 §(raise Div 0))))"),
	})
}

// TestKinds: the types that the table gives.
func TestKinds(t *testing.T) {
	for _, c := range [][2]string{
		{"1", "(v00 v01) int"},
		{"true", "(v00 v01) bool"},
		{"unit", "(v00 v01) unit"},
		{"q", "(v00 v01) v01"},
		{"(same q p)", "(v00 v00) v00"},
		{"(Pair p q)", "(v00 v01) (pair v00 v01)"},
		{"(Cons p q)", "(v00 (list v00)) (list v00)"},
		{"(Green)", "(v00 v01) (color)"},
		{"(tuple q p q)", "(v00 v01) (* v01 v00 v01)"},
		{"(get 1 (tuple p q))", "(v00 v01) v01"},
		{"(let p (tuple p p) p)", "(v00 v01) (* v00 v00)"},
		{"(let q p q)", "(v00 v01) v00"},
		{"(if p q 1)", "(bool int) int"},
		{"(case p ((Pair x y) (two x y)))", "((pair int int) v00) int"},
		{"(case p ((Cons x r) x) ((Nil) q))", "((list v00) v00) v00"},
		{"(case p ((Pair p p2) p))", "((pair v00 v01) v02) v00"},
		{"(fn x (tuple x p))", "(v00 v01) (-> v02 (* v02 v00))"},
		{"(fn p p)", "(v00 v01) (-> v02 v02)"},
		{"(call p q)", "((-> v00 v01) v00) v01"},
		{"(ref p)", "(v00 v01) (ref v00)"},
		{"(deref p)", "((ref v00) v01) v00"},
		{"(set p q)", "((ref v00) v00) unit"},
		{"(array p q)", "(int v00) (array v00)"},
		{"(at p q)", "((array v00) int) v00"},
		{"(put p q (at p 0))", "((array v00) int) unit"},
		{"(put q 1 p)", "(v00 (array v00)) unit"},
		{"(len p)", "((array v00) v01) int"},
		{"(raise no p)", "(int v00) v01"},
		{"(handle p)", "(v00 v01) v00"},
		{"(handle p (no x (* x 2)) (Div y q))", "(int int) int"},
		{"(print p)", "(int v00) unit"},
		{"(seq p q)", "(v00 v01) v01"},
		{"(+ p (- q (* 1 (/ 2 (% 3 4)))))", "(int int) int"},
		{"(= p q)", "(int int) bool"},
		{"(< p q)", "(int int) bool"},
		{"(body q p)", "(v00 v00) v01"},
		{"(seq (id q) (id p))", "(v00 v01) v00"},
		{"(tuple (fn x (id x)) (id 1) (id true))", "(v00 v01) (* (-> v02 v02) int bool)"},
	} {
		checkScheme(t, c[0], c[1])
	}
}

// refusedBodies are the errors of expressions, each as the body of a function of p and q.
var refusedBodies = []struct {
	e    api.Errno
	body string
}{
	{api.ErrUnknown, "§x"},
	{api.ErrUnknown, "§id"},
	{api.ErrUnknown, "(seq (let x 1 x) §x)"},
	{api.ErrUnknown, "(let x §x 1)"},
	{api.ErrUnknown, "(tuple (fn x x) §x)"},
	{api.ErrUnknown, "(case p ((Cons x y) 1) ((Nil) §x))"},
	{api.ErrUnknown, "§(f p)"},
	{api.ErrUnknown, "§(p q)"},
	{api.ErrUnknown, "§(main)"},
	{api.ErrUnknown, "§(f x)"},
	{api.ErrCount, "§(id)"},
	{api.ErrCount, "§(id x y)"},
	{api.ErrCount, "§(body p)"},
	{api.ErrMismatch, "(two 1 §true)"},
	{api.ErrMismatch, "(two §unit x)"},
	{api.ErrUnknown, "(two 1 §x)"},
	{api.ErrMismatch, "(same (tuple p 1) §(tuple q true))"},
	{api.ErrMismatch, "(same (tuple p 1) §(tuple q 1 1))"},
	{api.ErrMismatch, "(same (tuple p 1 1) §(tuple q 1))"},
	{api.ErrMismatch, "(same (Nil) §(Red))"},
	{api.ErrMismatch, "(same (Nil) §(Box 1))"},
	{api.ErrMismatch, "(same (ref 1) §(array 1 1))"},
	{api.ErrEndless, "(same p §(tuple q p))"},
	{api.ErrEndless, "(same (tuple p q) §(tuple q (ref p)))"},
	{api.ErrEndless, "(tuple (same p (ref q)) (same q §(ref p)))"},
	{api.ErrUnknown, "§(None)"},
	{api.ErrUnknown, "§(None x)"},
	{api.ErrCount, "§(Cons p)"},
	{api.ErrCount, "§(Red x)"},
	{api.ErrMismatch, "(Cons 1 §(Cons true (Nil)))"},
	{api.ErrMismatch, "(Cons 1 §2)"},
	{api.ErrUnknown, "(tuple p §x y)"},
	{api.ErrMismatch, "(get 0 §p)"},
	{api.ErrMismatch, "(get 2 §(tuple p q))"},
	{api.ErrMismatch, "(seq (get 0 §p) (same p (tuple q q)))"},
	{api.ErrUnknown, "(get 0 §x)"},
	{api.ErrMismatch, "(let f (fn x x) (tuple (call f 1) §(call f true)))"},
	{api.ErrMismatch, "(if §1 x y)"},
	{api.ErrMismatch, "(if true 1 §true)"},
	{api.ErrUnknown, "(if true §x y)"},
	{api.ErrUnknown, "(if p 1 §x)"},
	{api.ErrUnknown, "(case §x ((None) 1))"},
	{api.ErrUnknown, "(case 1 ((None) §1))"},
	{api.ErrMismatch, "(case §1 ((Nil) x))"},
	{api.ErrMismatch, "(case §(Red) ((Nil) x))"},
	{api.ErrArms, "(case p ((Nil) 1) ((Red) §1))"},
	{api.ErrArms, "(case p ((Nil) 1) ((Green) §x))"},
	{api.ErrArms, "(case p ((Nil) 1) ((None) §1))"},
	{api.ErrArms, "(case p ((Nil) 1) ((Nil) §x))"},
	{api.ErrArms, "(case p ((Cons x y) 1) ((Cons) §x))"},
	{api.ErrCount, "(case p ((Nil) 1) ((Cons x) §x))"},
	{api.ErrCount, "(case p ((Cons x x x) §x))"},
	{api.ErrTwice, "(case p ((Cons x x) §y))"},
	{api.ErrUnknown, "(case p ((Nil) §y) ((Cons x x) 1))"},
	{api.ErrMismatch, "(case p ((Nil) 1) ((Cons x r) §r))"},
	{api.ErrMismatch, "(case p ((Cons x r) (+ x §true)))"},
	{api.ErrArms, "§(case p ((Cons x r) x))"},
	{api.ErrArms, "§(case p ((Green) 1))"},
	{api.ErrUnknown, "(fn x §y)"},
	{api.ErrMismatch, "§(call 1 2)"},
	{api.ErrMismatch, "§(call (fn x (+ x 1)) true)"},
	{api.ErrUnknown, "(call 1 §x)"},
	{api.ErrEndless, "§(call p p)"},
	{api.ErrMismatch, "(deref §1)"},
	{api.ErrMismatch, "(deref §(array 1 1))"},
	{api.ErrUnknown, "(ref §x)"},
	{api.ErrMismatch, "(set §1 x)"},
	{api.ErrMismatch, "(set (ref 1) §true)"},
	{api.ErrEndless, "(set p §p)"},
	{api.ErrMismatch, "(array §true x)"},
	{api.ErrUnknown, "(array p §x)"},
	{api.ErrMismatch, "(at §(ref 1) x)"},
	{api.ErrMismatch, "(at p §p)"},
	{api.ErrMismatch, "(put §1 x x)"},
	{api.ErrMismatch, "(put p §true x)"},
	{api.ErrMismatch, "(put (array 1 1) 0 §true)"},
	{api.ErrEndless, "(put p 0 §p)"},
	{api.ErrMismatch, "(len §(ref 1))"},
	{api.ErrUnknown, "§(raise none x)"},
	{api.ErrMismatch, "(raise no §true)"},
	{api.ErrUnknown, "(handle §x (none v 1))"},
	{api.ErrUnknown, "(handle 1 (none v §1))"},
	{api.ErrUnknown, "(handle 1 (no v v) (none v §x))"},
	{api.ErrArms, "(handle 1 (no v v) (Div v v) (no w §x))"},
	{api.ErrUnknown, "(handle 1 (no v §w) (no w 1))"},
	{api.ErrMismatch, "(handle true (no v §v))"},
	{api.ErrMismatch, "(handle 1 (no v (if §v 1 1)))"},
	{api.ErrMismatch, "(print §true)"},
	{api.ErrUnknown, "(seq 1 §x)"},
	{api.ErrMismatch, "(+ §true x)"},
	{api.ErrMismatch, "(- 1 §true)"},
	{api.ErrMismatch, "(* 1 §true)"},
	{api.ErrMismatch, "(/ 1 §true)"},
	{api.ErrMismatch, "(% 1 §unit)"},
	{api.ErrMismatch, "(= §true true)"},
	{api.ErrMismatch, "(< 1 §(= 1 1))"},
	{api.ErrMismatch, "(+ §(< 1 2) 1)"},
	{api.ErrMismatch, "(seq (int1 p) (bool1 §p))"},
	{api.ErrEndless, "§(fn x (body p q))"},
}

func TestRefusedBodies(t *testing.T) {
	for _, c := range refusedBodies {
		refuses(c.e, inBody(c.body)).check(t)
	}
}

func TestRefusedUnits(t *testing.T) {
	const last = "(unit z (fun main () 0))"
	checkRefusals(t, []refused{
		refuses(api.ErrMain),
		refuses(api.ErrUse, "(unit a)", "(unit b)", "§(unit a)", last),
		refuses(api.ErrUse, "§(unit a (use a))", last),
		refuses(api.ErrUse, "§(unit a (use b))", "(unit b)", last),
		refuses(api.ErrUse, "(unit a)", "§(unit b (use a) (use a))", last),
		refuses(api.ErrUse, "(unit a)", "§(unit b (use a) (use c) (exception e) (exception e))", last),
		refuses(api.ErrTwice, "(unit a (exception e) §(exception e))", "(unit a)", last),
		refuses(api.ErrMain, "(unit a)", "§(unit b)"),
		refuses(api.ErrMain, "(unit a (fun main () 0))", "§(unit b)"),
		refuses(api.ErrMain, "§(unit a (exception main) (data main () (Main)))"),
		refuses(api.ErrTwice, "(unit a (fun main () 0))", "(unit b (fun §main () 0))"),
		refuses(api.OK, "(unit a (fun f () 0))", "(unit b (use a) (fun main () (f)))"),
		refuses(api.OK, "(unit a (data a (a) (A (a a))) (exception a) (fun a (a) (raise a (a a))))", last),
	})
}

// TestSeen: what a unit sees of others: that of the units that it uses, and no more.
func TestSeen(t *testing.T) {
	const a = "(unit a (data d () (C)) (exception e) (fun f () 0))"
	const b = "(unit b (use a) (fun g () (f)))"
	checkRefusals(t, []refused{
		refuses(api.ErrUnknown, a, b, "(unit c (use b) (fun main () §(f)))"),
		refuses(api.ErrUnknown, a, b, "(unit c (use b) (fun main () (seq §(C) (g))))"),
		refuses(api.ErrUnknown, a, b, "(unit c (use b) (fun main () §(raise e 0)))"),
		refuses(api.ErrUnknown, a, b, "(unit c (use b) (fun main () (handle 0 (e v §v))))"),
		refuses(api.ErrUnknown, a, b, "(unit c (use b) (fun h (x) (case x ((C) §0))))"),
		refuses(api.ErrUnknown, a, b, "(unit c (use b) §(data d2 () (C2 (d))))"),
		refuses(api.ErrUnknown, a, b, "(unit c (use b) (fun §h ((x (d))) int 0))"),
		refuses(api.OK, a, b, "(unit c (use a) (use b) (fun main () (case (C) ((C) (handle (raise e (g)) (e v (f)))))))"),
		refuses(api.OK, a, "(unit b (use a) (fun k () (C)))", "(unit c (use b) (fun i (x) x) (fun main () (seq (i (k)) 0)))"),
		refuses(api.ErrTwice, a, "(unit b §(data d () (C2)))"),
		refuses(api.ErrTwice, a, "(unit b §(data d2 () (C)))"),
		refuses(api.ErrTwice, a, "(unit b §(exception e))"),
		refuses(api.ErrTwice, a, "(unit b (fun §f () 0))"),
		refuses(api.ErrUnknown, "(unit m §(data d () (C (e))) (data e () (E)))"),
		refuses(api.ErrUnknown, "(unit m (fun f () §(g)) (fun g () 0))"),
		refuses(api.ErrUnknown, "(unit m (fun f () §(raise e 0)) (exception e))"),
		refuses(api.ErrUnknown, "(unit m (fun f () §(C)) (data d () (C)))"),
		refuses(api.OK, "(unit m (data d (a) (N) (C a (d (d a)))) (funs (f () (g)) (g () (f)) (main () (f))))"),
	})
}

func TestRefusedDeclarations(t *testing.T) {
	checkRefusals(t, []refused{
		refuses(api.ErrTwice, unitOf("(data d () (C)) §(data d (a a) (C))")),
		refuses(api.ErrTwice, unitOf("§(data d (a b a) (C x))")),
		refuses(api.ErrTwice, unitOf("§(data d () (C) (D) (C x))")),
		refuses(api.ErrTwice, unitOf("(data c () (C)) §(data d () (C x))")),
		refuses(api.ErrUnknown, unitOf("§(data d (a) (C b) (C a))")),
		refuses(api.ErrUnknown, unitOf("§(data d (a) (C (* a (-> int (ref (array b))))))")),
		refuses(api.ErrUnknown, unitOf("§(data d (a) (C (e a)))")),
		refuses(api.ErrCount, unitOf("§(data d (a) (C (d)))")),
		refuses(api.ErrCount, unitOf("§(data d (a) (C (d x x)))")),
		refuses(api.ErrUnknown, unitOf("§(data d (a) (C (* x (d))))")),
		refuses(api.ErrUnknown, unitOf("§(data d (a) (C (d (e)) (d)))")),
		refuses(api.ErrTwice, unitOf("(exception e) §(exception e)")),
		refuses(api.ErrTwice, unitOf("(fun f () 0) (fun §f (x x) y)")),
		refuses(api.ErrTwice, unitOf("(funs (f () x) (§f () 0))")),
		refuses(api.ErrTwice, unitOf("(fun §f (x y x) z)")),
		refuses(api.ErrTwice, unitOf("(fun §f ((x (e)) (x a)) int 0)")),
		refuses(api.ErrTwice, unitOf("(funs (f () x) (§g (x x) 0))")),
		refuses(api.ErrUnknown, unitOf("(fun §f ((x (e))) int y)")),
		refuses(api.ErrUnknown, unitOf("(funs (f () y) (§g () (e) 0))")),
		refuses(api.ErrCount, unitOf("(data d (a) (C)) (fun §f ((x (d))) int y)")),
		refuses(api.ErrCount, unitOf("(data d (a) (C)) (fun §f ((x (d a a)) (y (e))) int y)")),
		refuses(api.ErrUnknown, unitOf("(funs (f () §y) (g () z))")),
		refuses(api.ErrMismatch, unitOf("(fun f ((x int)) bool §x)")),
		refuses(api.ErrMismatch, unitOf("(funs (f () (+ 1 (g))) (g () §true))")),
	})
}

func TestMain(t *testing.T) {
	checkRefusals(t, []refused{
		refuses(api.ErrMain, "(unit m (fun §main (a b c d e) 0))"),
		refuses(api.ErrUnknown, "(unit m (fun main (a b c d e) §x))"),
		refuses(api.ErrMain, "(unit m (fun §main () true))"),
		refuses(api.ErrMain, "(unit m (fun §main (x) (if x 1 2)))"),
		refuses(api.ErrMain, "(unit m (fun §main ((x a)) int 1))"),
		refuses(api.ErrMain, "(unit m (fun §main () a (raise Div 0)))"),
		refuses(api.ErrMain, "(unit m (fun §main (x) (ref x)))"),
		refuses(api.ErrMain, "(unit m (funs (f () 0) (§main () unit)))"),
		refuses(api.ErrTwice, "(unit m (fun §main (a a a a a) 0))"),
		refuses(api.OK, "(unit m (fun main (a b c d) 0))"),
		refuses(api.OK, "(unit m (fun main ((a int) (b int)) int 0))"),
		refuses(api.OK, "(unit m (fun main () 0) (exception e))"),
		refuses(api.OK, "(unit a (fun f () true))", "(unit m (fun main (a) a))"),
		refuses(api.ErrMain, "(unit a (fun main () true))", "§(unit m)"),
	})
	p := found(t, "(unit m (funs (main (x) (g x)) (g (y) (raise Div 0))))")
	if s := spellScheme(p.Funs[0].Scheme, nil) + ", " + spellScheme(p.Funs[1].Scheme, nil); s != "(int) int, (int) int" {
		t.Errorf("main that could be any type: %s", s)
	}
}

// TestNotes: written types, rigid types and where they go.
func TestNotes(t *testing.T) {
	checkRefusals(t, []refused{
		refuses(api.ErrNote, unitOf("(fun f ((x a) (y b)) a §y)")),
		refuses(api.ErrNote, unitOf("(fun f ((x a)) int §x)")),
		refuses(api.ErrNote, unitOf("(fun f ((x a)) (* a a) §(tuple x 1))")),
		refuses(api.ErrMismatch, unitOf("(fun f ((x a)) (* int a) §(tuple true 1))")),
		refuses(api.ErrNote, unitOf("(fun f ((x (ref a))) a §x)")),
		refuses(api.ErrMismatch, unitOf("(fun f ((x (ref a))) (array a) §x)")),
		refuses(api.ErrNote, unitOf("(funs (f ((x a)) a (seq (g x) x)) (§g (y) 0))")),
		refuses(api.ErrNote, unitOf("(funs (f ((x a)) int (+ (g (tuple 1 x)) §x)) (g (y) 0))")),
		refuses(api.ErrNote, unitOf("(funs (f ((x a)) a (g)) (§g () (raise Div 0)))")),
		refuses(api.ErrNote, unitOf("(funs (f ((x a)) a (seq (g x) x)) (h ((x b)) b (seq (g §x) x)) (g (y) 0))")),
		refuses(api.ErrNote, "(unit m (funs (§main (x) (f x)) (f ((x a)) int (seq (main x) 0))))"),
		refuses(api.OK, unitOf("(funs (f ((x a)) a (seq (g 0) x)) (g (y) (f y)))")),
		refuses(api.OK, unitOf("(fun f ((x a)) b (raise Div 0))")),
		refuses(api.OK, unitOf("(fun f ((x a)) int (let y x (let z (f (tuple y 1)) (f z))))")),
		refuses(api.ErrNote, unitOf("(fun f ((x a)) int (let g (fn y (f y)) (let r (ref 1) (set r §x))))")),
	})
	p := found(t, unitOf("(fun f ((x (* b a)) (y (-> a c))) (* c b) (tuple (call y (get 1 x)) (get 0 x)))"))
	if s := p.Funs[0].Scheme; s.Vars != 3 || spellScheme(s, nil) != "((* v00 v01) (-> v01 v02)) (* v02 v00)" {
		t.Errorf("a noted scheme: %+v", s)
	}
}

// TestGroups: functions that call each other have one type each in their own declaration.
func TestGroups(t *testing.T) {
	checkRefusals(t, []refused{
		refuses(api.ErrMismatch, unitOf("(funs (f () (seq (g 1) (g §true))) (g (x) x))")),
		refuses(api.ErrMismatch, unitOf("(fun f (x) (if true 1 (seq (f 1) (f §true))))")),
		refuses(api.OK, unitOf("(fun g (x) x) (fun f () (seq (g 1) (g true)))")),
		refuses(api.OK, unitOf("(funs (f () (seq (g 1) (g true))) (g ((x a)) a x))")),
	})
	p := found(t, unitOf("(funs (f (x) (seq (g (raise Div 0) x) x)) (g (y z) (seq (f z) 1)))"))
	f, g := p.Funs[0], p.Funs[1]
	if s := spellScheme(f.Scheme, nil) + ", " + spellScheme(g.Scheme, nil); s != "(v00) v00, (v00 v01) int" {
		t.Errorf("a group: %s", s)
	}
	// In f the type of y is no variable of its own.
	if inst := f.Body.Kids[0].Inst; strings.Join(spellAll(inst, nil), " ") != "unit v00" {
		t.Errorf("what g's variables are in f: %+v", inst)
	}
	if inst := g.Body.Kids[0].Inst; strings.Join(spellAll(inst, nil), " ") != "v01" {
		t.Errorf("what f's variables are in g: %+v", inst)
	}
}

// TestUntouched: no argument is changed, no memory is shared, and no call leaves anything for the next one.
func TestUntouched(t *testing.T) {
	units := readUnits(t, inBody("(case p ((Pair x y) (handle (two x y) (no v q))))"))
	before := copied(units)
	first, r := types.Infer(units)
	if r.E != api.OK {
		t.Fatal(r)
	}
	want := copied(first)
	if e := types.Verify(first); e != api.OK || !reflect.DeepEqual(copied(first), want) {
		t.Errorf("Verify changes its argument: %d", e)
	}
	for i := range first.Funs {
		spoil(&first.Funs[i])
	}
	for i := range first.Datas {
		first.Datas[i].Cons[0].Name = "Spoilt"
		for j := range first.Datas[i].Vars {
			first.Datas[i].Vars[j] = "spoilt"
		}
	}
	first.Exns[0] = "spoilt"
	if !reflect.DeepEqual(copied(units), before) {
		t.Errorf("Infer changes its argument, or shares memory with it")
	}
	if again, r := types.Infer(units); r.E != api.OK || !reflect.DeepEqual(copied(again), want) {
		t.Errorf("Infer again: %+v", r)
	}
}

// spoil writes over all lists of a function.
func spoil(f *api.TypedFun) {
	for i := range f.Params {
		f.Params[i] = "spoilt"
	}
	every(&f.Body, func(e *api.Expr) {
		for i := range e.Type.Args {
			e.Type.Args[i].N = -7
		}
		for i := range e.Inst {
			e.Inst[i].N = -7
		}
		for i := range e.Arms {
			for j := range e.Arms[i].Vars {
				e.Arms[i].Vars[j] = "spoilt"
			}
		}
	})
}
