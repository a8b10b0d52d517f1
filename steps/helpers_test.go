package steps_test

import (
	"math"
	"reflect"
	"slices"
	"testing"

	"heriot/api"
	"heriot/samples"
	"heriot/steps"
)

// plenty is more fuel than a run can have.
const plenty = math.MaxInt

// library is what the programs of these tests have ahead of their own functions. Function 0 is one, 1 is first, 2 is doing.
const library = `data list 1 = Nil | Cons v0 (d0 v0 @0 {e0}); data color 0 = Red | Green | Blue; data doer 0 = Do (-> int int @0 {e0}) | Wait;
 data nest 1 = End | More v0 (d3 (* v0 v0 @0) @0 {e0}); exn no; exn why;
 fun one 0 1 0 {0} (int) (d0 int @0) [1 (d0 int @0) := make .0; 2 (d0 int @0) := make .1 0 1 @0; end @0; value 2];
 fun first 2 1 0 {0} ((* v0 v1 @0)) v0 [1 v0 := get #0 0; end @0; value 1];
 fun doing 0 1 1 {0 e0} ((-> int int @0 {e0}) int) int [2 int := apply 0 1; end @0; value 2];`

// someMain is a main for programs whose other functions are looked at.
const someMain = "fun main (int) int [value 0];"

// inMain is a program whose main(n) has some steps, and a value.
func inMain(steps string) string { return library + " fun main (int) int [" + steps + "]" }

// inFun is a program with one more function, of number 3.
func inFun(fun string) string { return library + " fun f " + fun + "; " + someMain }

// short is the begin of a text, for what a test prints.
func short(text string) string {
	if len(text) > 1500 {
		text = text[:1500] + ".."
	}
	return text
}

func sameSpot(a, b api.Spot) bool { return a.Fun == b.Fun && slices.Equal(a.Path, b.Path) }

// checkIs looks at what Check says of a program, and what the judge says.
func checkIs(t *testing.T, p api.Program, want api.Errno, at api.Spot) {
	t.Helper()
	if e, spot := steps.Check(p); e != want || !sameSpot(spot, at) {
		t.Errorf("Check: %d %v, not %d %v: %s", e, spot, want, at, short(samples.Write(p)))
	}
	if j := judged(p); j.e != want || !sameSpot(j.spot, at) {
		t.Errorf("the judge: %d %v, not %d %v: %s", j.e, j.spot, want, at, short(samples.Write(p)))
	}
}

// inMainIs looks at what Check says of a main with some steps.
func inMainIs(t *testing.T, text string, want api.Errno, path ...int) {
	t.Helper()
	at := api.Spot{Fun: 3, Path: path}
	if want == api.OK || want == api.ErrShape {
		at = api.Spot{}
	}
	checkIs(t, samples.Program(inMain(text)), want, at)
}

// inFunIs looks at what Check says of one more function.
func inFunIs(t *testing.T, text string, want api.Errno, path ...int) {
	t.Helper()
	at := api.Spot{Fun: 3, Path: path}
	if want == api.OK || want == api.ErrShape {
		at = api.Spot{}
	}
	checkIs(t, samples.Program(inFun(text)), want, at)
}

// isSameRun tells whether two runs are the same; a list without elements may be nil.
func isSameRun(a, b api.Run) bool {
	if !slices.Equal(a.Result.Outs, b.Result.Outs) || !slices.Equal(a.Events, b.Events) {
		return false
	}
	a.Result.Outs, b.Result.Outs, a.Events, b.Events = nil, nil, nil, nil
	return reflect.DeepEqual(a, b)
}

func isSameResult(a, b api.Result) bool {
	return isSameRun(api.Run{Result: a}, api.Run{Result: b})
}

func areSameFrames(a, b []api.Frame) bool {
	return slices.EqualFunc(a, b, func(x, y api.Frame) bool {
		return x.Fun == y.Fun && slices.Equal(x.Path, y.Path) && slices.Equal(x.Regions, y.Regions) && slices.Equal(x.Instances, y.Instances)
	})
}

var stuck = api.Run{Result: api.Result{Fault: api.FStuck}}
