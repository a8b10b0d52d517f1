package plain_test

import (
	"math"
	"reflect"
	"slices"
	"testing"

	"heriot/api"
	"heriot/plain"
	"heriot/words"
)

// plenty is more fuel than a run can have.
const plenty = math.MaxInt

var stuck = api.Result{Fault: api.FStuck}

// answers is the result of a run that ends without a fault.
func answers(answer int64, ticks int, outs ...int64) api.Result {
	return api.Result{Answer: answer, Ticks: ticks, Outs: outs}
}

// raises is the result of a run that ends by an exception.
func raises(exn string, payload int64, ticks int, outs ...int64) api.Result {
	return api.Result{Fault: api.FExn, Exn: exn, Payload: payload, Ticks: ticks, Outs: outs}
}

// spends is the result of a run whose fuel is spent.
func spends(ticks int, outs ...int64) api.Result {
	return api.Result{Fault: api.FFuel, Ticks: ticks, Outs: outs}
}

func readUnits(t *testing.T, texts ...string) []api.Unit {
	t.Helper()
	var units []api.Unit
	for _, s := range texts {
		u, r := words.Read(s)
		if r.E != api.OK {
			t.Fatalf("Read(%s): %+v", s, r)
		}
		units = append(units, u)
	}
	return units
}

// isSame tells whether two results are the same; a list without elements may be nil.
func isSame(a, b api.Result) bool {
	if !slices.Equal(a.Outs, b.Outs) {
		return false
	}
	a.Outs, b.Outs = nil, nil
	return reflect.DeepEqual(a, b)
}

func checkRun(t *testing.T, what string, units []api.Unit, args []int64, fuel int, want api.Result) {
	t.Helper()
	if got := plain.Run(units, args, fuel); !isSame(got, want) {
		t.Errorf("Run: %s with %v, fuel %d: %+v, not %+v", what, args, fuel, got, want)
	}
}

// example is a program, the declarations of its last unit alone, with its arguments and its fuel.
type example struct {
	text string
	args []int64
	fuel int
	want api.Result
}

func (x example) check(t *testing.T) {
	t.Helper()
	checkRun(t, x.text, readUnits(t, library, "(unit m (use lib) "+x.text+")"), x.args, x.fuel, x.want)
}

func checkExamples(t *testing.T, list []example) {
	t.Helper()
	for _, x := range list {
		x.check(t)
	}
}

// checkBodies looks at runs of (fun main () E).
func checkBodies(t *testing.T, list []body) {
	t.Helper()
	for _, b := range list {
		example{"(fun main () " + b.expression + ")", nil, plenty, b.want}.check(t)
	}
}

type body struct {
	expression string
	want       api.Result
}

// library is a unit for all examples. say prints a number and gives it.
const library = `(unit lib (exception no) (exception why)
 (data list (a) (Nil) (Cons a (list a))) (data color () (Red) (Green) (Blue)) (data pair (a b) (Pair a b))
 (fun say (n) (seq (print n) n))
 (fun size (l) (case l ((Nil) 0) ((Cons x r) (+ 1 (size r)))))
 (fun map (f l) (case l ((Nil) (Nil)) ((Cons x r) (Cons (call f x) (map f r)))))
 (fun sum (l) (case l ((Cons x r) (+ x (sum r))) ((Nil) 0)))
 (fun upto (n) (if (< n 1) (Nil) (Cons n (upto (- n 1)))))
 (fun fill (a i) (if (< i (len a)) (seq (put a i i) (fill a (+ i 1))) a))
 (fun twice (f) (fn x (call f (call f x))))
 (fun rank (c) (case c ((Blue) 3) ((Red) 1) ((Green) 2)))
 (fun forever (n) (seq (print n) (forever (+ n 1)))))`
