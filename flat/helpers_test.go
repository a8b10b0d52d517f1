package flat_test

import (
	"math"
	"reflect"
	"slices"
	"testing"

	"heriot/api"
	"heriot/flat"
	"heriot/samples"
	"heriot/types"
	"heriot/words"
)

// plenty is more fuel than a run can have.
const plenty = math.MaxInt

// library is what the programs of these tests have ahead of their own functions. Function 0 is id, 1 is fst.
const library = `data list 1 = Nil | Cons v0 (d0 v0); data color 0 = Red | Green | Blue; data pair 2 = Pair v0 v1;
 data nest 1 = End | More v0 (d3 (* v0 v0)); exn no; exn why;
 fun id 1 (v0) v0 [value 0]; fun fst 2 ((* v0 v1)) v0 [1 v0 := get #0 0; value 1];`

// someMain is a main for programs whose other functions are looked at.
const someMain = "fun main (int) int [value 0];"

var stuck = api.Result{Fault: api.FStuck}

func answers(answer int64, ticks int, outs ...int64) api.Result {
	return api.Result{Answer: answer, Ticks: ticks, Outs: outs}
}

func raises(exn string, payload int64, ticks int, outs ...int64) api.Result {
	return api.Result{Fault: api.FExn, Exn: exn, Payload: payload, Ticks: ticks, Outs: outs}
}

func spends(ticks int, outs ...int64) api.Result {
	return api.Result{Fault: api.FFuel, Ticks: ticks, Outs: outs}
}

// isSame tells whether two results are the same; a list without elements may be nil.
func isSame(a, b api.Result) bool {
	if !slices.Equal(a.Outs, b.Outs) {
		return false
	}
	a.Outs, b.Outs = nil, nil
	return reflect.DeepEqual(a, b)
}

// short is the begin of a text, for what a test prints.
func short(text string) string {
	if len(text) > 1000 {
		text = text[:1000] + ".."
	}
	return text
}

func checkValid(t *testing.T, text string, want api.Errno) {
	t.Helper()
	if got := flat.Valid(samples.Program(text)); got != want {
		t.Errorf("Valid: %s: %d, not %d", short(text), got, want)
	}
}

// checkFunctions looks at programs that have one more function than the library and main.
func checkFunctions(t *testing.T, want api.Errno, functions ...string) {
	t.Helper()
	for _, f := range functions {
		checkValid(t, library+" fun f "+f+"; "+someMain, want)
	}
}

// checkRun runs a program, whose last function is main.
func checkRun(t *testing.T, text string, args []int64, fuel int, want api.Result) {
	t.Helper()
	p := samples.Program(library + text)
	if e := flat.Valid(p); e != api.OK {
		t.Errorf("Valid: %s: %d", text, e)
	}
	if got := flat.Run(p, args, fuel); !isSame(got, want) {
		t.Errorf("Run: %s with %v, fuel %d: %+v, not %+v", text, args, fuel, got, want)
	}
}

func readUnits(t *testing.T, texts ...string) []api.Unit {
	t.Helper()
	var units []api.Unit
	for _, s := range texts {
		u, r := words.Read(s)
		if r.E != api.OK {
			t.Fatalf("Read(%s): %+v", short(s), r)
		}
		units = append(units, u)
	}
	return units
}

// typedOf is the program of some units' texts.
func typedOf(t *testing.T, texts ...string) api.Typed {
	t.Helper()
	typed, r := types.Infer(readUnits(t, texts...))
	if r.E != api.OK {
		t.Fatalf("Infer(%s): %+v", short(texts[len(texts)-1]), r)
	}
	return typed
}

func flattened(t *testing.T, typed api.Typed) api.Program {
	t.Helper()
	p, e := flat.Flatten(typed)
	if e != api.OK {
		t.Fatalf("Flatten: %d", e)
	}
	return p
}
