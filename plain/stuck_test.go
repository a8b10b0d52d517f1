package plain_test

import (
	"math"
	"reflect"
	"strconv"
	"strings"
	"testing"

	"heriot/api"
	"heriot/plain"
	"heriot/types"
)

// TestRefused: texts that are units, but no program.
func TestRefused(t *testing.T) {
	for _, x := range []struct {
		texts []string
		args  []int64
	}{
		{nil, nil},
		{[]string{"(unit m)"}, nil},
		{[]string{"(unit m (fun f () 0))"}, nil},
		{[]string{"(unit m (fun main () true))"}, nil},
		{[]string{"(unit m (fun main () (seq (print 1) (+ 1 true))))"}, nil},
		{[]string{"(unit m (fun main () x))"}, nil},
		{[]string{"(unit m (fun main () (f)))"}, nil},
		{[]string{"(unit m (fun main () (None)))"}, nil},
		{[]string{"(unit m (fun main () (raise no 1)))"}, nil},
		{[]string{"(unit m (fun f (x y) (+ x y)) (fun main () (let x 1 (f x))))"}, nil},
		{[]string{"(unit m (fun f () n) (fun main (n) (f)))"}, []int64{1}},
		{[]string{"(unit m (fun main () (let x 1 (main x))))"}, nil},
		{[]string{"(unit m (data d () (A) (B)) (fun main () (case (A) ((A) 1))))"}, nil},
		{[]string{"(unit m (fun main () (handle 1 (Div x 1) (Div x 2))))"}, nil},
		{[]string{"(unit m (fun main (a b c d e) a))"}, []int64{1, 2, 3, 4, 5}},
		{[]string{"(unit m (fun main () 1))", "(unit n)"}, nil},
		{[]string{"(unit m (fun main () 1))", "(unit m (fun f () 1))"}, nil},
		{[]string{"(unit m (fun f () 1))", "(unit n (fun main () (f)))"}, nil},
	} {
		checkRun(t, strings.Join(x.texts, "\n"), readUnits(t, x.texts...), x.args, plenty, stuck)
	}
	many := "(unit m (fun main () 1))"
	var texts []string
	for i := range api.MaxUnits {
		texts = append(texts, "(unit u"+strconv.Itoa(i)+")")
	}
	checkRun(t, "sixteen units", readUnits(t, append(texts[1:], many)...), nil, 0, answers(1, 0))
	checkRun(t, "seventeen units", readUnits(t, append(texts, many)...), nil, 0, stuck)
}

// TestArguments: as many as main has parameters.
func TestArguments(t *testing.T) {
	for _, params := range []string{"", "a", "a b", "a b c", "a b c d"} {
		units := readUnits(t, "(unit m (fun main ("+params+") (seq (print 1) 2)))")
		count := len(strings.Fields(params))
		for given := range 7 {
			want := stuck
			if given == count {
				want = answers(2, 0, 1)
			}
			checkRun(t, params, units, make([]int64, given), plenty, want)
		}
	}
}

// inMain is a unit whose main, without parameters, has a body.
func inMain(e api.Expr) api.Unit {
	f := api.FunDecl{Name: "main", Body: e}
	return api.Unit{Name: "m", Decls: []api.Decl{{Kind: api.DFuns, Funs: []api.FunDecl{f}}}}
}

// TestTrees: units that no text has.
func TestTrees(t *testing.T) {
	one := api.Expr{Kind: api.EInt, Int: 1}
	checkRun(t, "a tree that has a text", []api.Unit{inMain(one)}, nil, plenty, answers(1, 0))
	anywhere := one
	anywhere.At = math.MinInt
	checkRun(t, "a tree with a place that is none", []api.Unit{inMain(anywhere)}, nil, plenty, answers(1, 0))
	for _, e := range []api.Expr{
		{Kind: -1},
		{Kind: api.ELess + 1},
		{Kind: math.MaxInt},
		{Kind: api.EInt, Int: 1, Name: "x"},
		{Kind: api.EInt, Int: 1, Kids: []api.Expr{one}},
		{Kind: api.EInt, Int: 1, Type: api.Type{Kind: api.TBool}},
		{Kind: api.EInt, Int: 1, Inst: []api.Type{{}}},
		{Kind: api.EInt, Int: 1, Arms: []api.Arm{{}}},
		{Kind: api.EBool, Int: 2},
		{Kind: api.EName},
		{Kind: api.ECall},
		{Kind: api.ECall, Name: "Main"},
		{Kind: api.ETuple, Kids: []api.Expr{one}},
		{Kind: api.EGet, Int: -1, Kids: []api.Expr{{Kind: api.ETuple, Kids: []api.Expr{one, one}}}},
		{Kind: api.EGet, Int: 1 << 40, Kids: []api.Expr{{Kind: api.ETuple, Kids: []api.Expr{one, one}}}},
		{Kind: api.ELet, Kids: []api.Expr{one, one}},
		{Kind: api.ELet, Name: "let", Kids: []api.Expr{one, one}},
		{Kind: api.EIf, Kids: []api.Expr{{Kind: api.EBool}, one}},
		{Kind: api.ECase, Kids: []api.Expr{one}},
		{Kind: api.EApply, Kids: []api.Expr{one}},
		{Kind: api.EHandle, Kids: []api.Expr{one}, Arms: []api.Arm{{Name: "Div", Body: one}}},
		{Kind: api.EHandle, Kids: []api.Expr{one}, Arms: []api.Arm{{Name: "Div", Vars: []string{"x", "y"}, Body: one}}},
		{Kind: api.EPrint, Kids: []api.Expr{one, one}},
		{Kind: api.EAdd, Kids: []api.Expr{one, one, one}},
		{Kind: api.EAdd},
	} {
		checkRun(t, "a tree", []api.Unit{inMain(e)}, nil, plenty, stuck)
	}
	for _, u := range []api.Unit{
		{},
		{Name: "m", Decls: []api.Decl{{Kind: 3}}},
		{Name: "m", Decls: []api.Decl{{Kind: api.DFuns}}},
		{Name: "m", Decls: []api.Decl{{Kind: api.DFuns, Funs: []api.FunDecl{{}}}}},
		{Name: "m", Decls: []api.Decl{{Kind: api.DFuns, Funs: []api.FunDecl{{Name: "main", Types: []api.Type{{}}, Body: one}}}}},
		{Name: "m", Decls: []api.Decl{{Kind: api.DFuns, Funs: []api.FunDecl{{Name: "main", Noted: true, Result: api.Type{Kind: 99}, Body: one}}}}},
		{Name: "m", Decls: append(inMain(one).Decls, api.Decl{Kind: api.DData, Data: api.Data{Name: "d"}})},
	} {
		checkRun(t, "a tree", []api.Unit{u}, nil, plenty, stuck)
	}
}

// TestDeepTrees: trees that are nested beyond all limits.
func TestDeepTrees(t *testing.T) {
	for _, depth := range []int{50, 70, 1 << 16} {
		e := api.Expr{Kind: api.EInt, Int: 1}
		for range depth {
			e = api.Expr{Kind: api.EHandle, Kids: []api.Expr{e}}
		}
		want := stuck
		if depth == 50 {
			want = answers(1, 0)
		}
		checkRun(t, strconv.Itoa(depth)+" handles", []api.Unit{inMain(e)}, nil, plenty, want)
	}
}

// TestTypedTrees: a tree with the types that package types finds is no tree of a text.
func TestTypedTrees(t *testing.T) {
	typed, r := types.Infer(readUnits(t, "(unit m (fun main () (seq unit 1)))"))
	if r.E != api.OK {
		t.Fatal(r)
	}
	checkRun(t, "a body with its types", []api.Unit{inMain(typed.Funs[0].Body)}, nil, plenty, stuck)
}

// TestDeepRuns: calls that nest as deep as the limits allow.
func TestDeepRuns(t *testing.T) {
	for _, around := range []string{"(+ ~ 1)", "(get 0 (tuple ~ 0))", "(let x ~ x)", "(seq ~ 0)", "(f ~)", "(handle ~)", "(handle ~ (Div x x))", "(if true ~ 0)", "(call (fn y ~) 0)"} {
		form := strings.Split(around, "~")
		depth := strings.Count(form[0], "(")
		count := 60 / depth
		body := strings.Repeat(form[0], count) + "(f (- n 1))" + strings.Repeat(form[1], count)
		units := readUnits(t, "(unit m (fun f (n) "+body+") (fun main (n) (f n)))")
		checkRun(t, around, units, []int64{5}, plenty, spends(api.MaxFuel))
	}
	back := "(unit m (fun f (n) (if (< n 1) (/ 1 n) (handle (+ 1 (f (- n 1))) (Index i i)))) (fun main (n) (handle (f n) (Div x 7))))"
	checkRun(t, "an exception through all handles", readUnits(t, back), []int64{api.MaxFuel - 1}, plenty, answers(7, api.MaxFuel))
}

// TestWide: thousands of parameters, constructors and arms.
func TestWide(t *testing.T) {
	const count = 3000
	var params, others, cons, arms string
	for i := range count {
		name := three(i)
		params += " a" + name
		cons += " (A" + name + ")"
		arms += " ((A" + name + ") " + strconv.Itoa(i%10) + ")"
		if i > 0 {
			others += " a" + name
		}
	}
	units := readUnits(t,
		"(unit w (data wide ()"+cons+") (fun g (c) (case c"+arms+")))",
		"(unit m (use w) (fun f ("+params+") (if (< a"+three(0)+" 1) (+ a"+three(1)+" a"+three(count-1)+") (f (- a"+three(0)+" 1)"+others+")))"+
			" (fun main (n) (+ (g (A"+three(count-1)+")) (f"+strings.Repeat(" n", count)+"))))")
	checkRun(t, "3000 parameters and arms", units, []int64{1000}, plenty, answers(9+2000, 1002))
}

// three writes a number below 8,000 with three digits to the base 20.
func three(i int) string {
	const digits = "abcdefghijklmnopqrst"
	return string([]byte{digits[i/400], digits[i/20%20], digits[i%20]})
}

// TestKept: nothing is changed in the arguments, and nothing is kept from run to run.
func TestKept(t *testing.T) {
	text := "(unit m (use lib) (fun main (n) (let a (array 3 n) (let r (ref 1) (handle (seq (print (at a 1)) (seq (put a n 5) (seq (set r 2) (/ (deref r) n)))) (no x x))))))"
	units := readUnits(t, library, text)
	for i, want := range []api.Result{raises("Div", 0, 3, 0), answers(2, 3, 1), answers(1, 3, 2), raises("Index", 3, 3, 3), raises("Div", 0, 3, 0)} {
		args := []int64{int64(i % 4)}
		got := plain.Run(units, args, plenty)
		if !isSame(got, want) {
			t.Errorf("%d: %+v, not %+v", i, got, want)
		}
		if !reflect.DeepEqual(units, readUnits(t, library, text)) || args[0] != int64(i%4) {
			t.Fatalf("%d: Run changes its arguments", i)
		}
		got.Outs[0] = 99
	}
}
