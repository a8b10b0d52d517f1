package steps_test

import (
	"strconv"
	"strings"
	"testing"

	"heriot/api"
	"heriot/samples"
	"heriot/steps"
)

// eventsText writes events: what happens, the instance, and the words if there are any.
func eventsText(events []api.Event) string {
	var out []string
	for _, e := range events {
		text := []string{"new", "alloc", "touch", "end"}[e.Kind] + " " + strconv.Itoa(e.Region)
		if e.Words != 0 {
			text += " " + strconv.Itoa(e.Words)
		}
		out = append(out, text)
	}
	return strings.Join(out, ", ")
}

// runs is what a run of a main is: its answer, or its fault, and its events.
type runs struct {
	text   string // of main(n), or of all functions behind the library
	args   []int64
	fuel   int
	result api.Result
	peak   int
	left   int
	events string
}

func (r runs) check(t *testing.T) {
	t.Helper()
	text := inMain(r.text)
	if strings.HasPrefix(r.text, "fun ") {
		text = library + r.text
	}
	p := samples.Program(text)
	got := steps.Run(p, r.args, r.fuel)
	want := api.Run{Result: r.result, Peak: r.peak, Left: r.left, Events: got.Events}
	if !isSameRun(got, want) || eventsText(got.Events) != r.events {
		t.Errorf("Run: %s with %v, fuel %d: %+v, peak %d, left %d, %s", r.text, r.args, r.fuel, got.Result, got.Peak, got.Left, eventsText(got.Events))
	}
	if told, _ := tell(p, r.args, r.fuel, false); !isSameRun(got, told) {
		t.Errorf("the teller: %s with %v, fuel %d: %+v", r.text, r.args, r.fuel, told)
	}
	held := 0
	for i, e := range got.Events {
		switch e.Kind {
		case api.VAlloc:
			held += e.Words
		case api.VEnd:
			held -= e.Words
		}
		if e.Held != held {
			t.Errorf("Run: %s: event %d: held %d, not %d", r.text, i, e.Held, held)
		}
	}
}

func answers(answer int64, ticks int, outs ...int64) api.Result {
	return api.Result{Answer: answer, Ticks: ticks, Outs: outs}
}

func raises(exn string, payload int64, ticks int) api.Result {
	return api.Result{Fault: api.FExn, Exn: exn, Payload: payload, Ticks: ticks}
}

func faults(fault, ticks int) api.Result { return api.Result{Fault: fault, Ticks: ticks} }

// TestExampleRuns: the chapter's examples and DOC.md's.
func TestExampleRuns(t *testing.T) {
	t.Parallel()
	for _, r := range []runs{
		{"new @0; 1 (* int int @0) := tuple 0 0 @0; 2 int := get #0 1; end @0; value 2", []int64{7}, 9, answers(7, 0), 2, 0, "new 0, alloc 0 2, touch 0, end 0 2"},
		{"fun main () int [0 int := int #1; value 0]", nil, 9, answers(1, 0), 0, 0, ""},
		{"fun main () int [new @0; 0 int := int #1; value 0]", nil, 9, answers(1, 0), 0, 0, "new 0"},
		{"fun main () int [new @0; end @0; end @0; 0 int := int #1; value 0]", nil, 9, faults(api.FTouch, 0), 0, 0, "new 0, end 0"},
		{"new @0; 1 (* int int @0) := tuple 0 0 @0; end @0; 2 int := get #0 1; value 2", []int64{7}, 9, faults(api.FTouch, 0), 2, 0, "new 0, alloc 0 2, end 0 2"},
		{"new @0; 1 (ref int @0) := ref 0 @0; 2 int := deref 1; 3 int := int #2; 4 int := mul 2 3; 5 unit := set 1 4; 6 int := deref 1; end @0; value 6",
			[]int64{21}, 9, answers(42, 0), 1, 0, "new 0, alloc 0 1, touch 0, touch 0, touch 0, end 0 1"},
		{"1 int := int #0; 2 int := div 1 1; value 2", []int64{5}, 9, raises("Div", 0, 0), 0, 0, ""},
		{"new @0; 1 (array int @0) := array 0 0 @0; 2 int := int #3; 3 int := at 1 2; end @0; value 3", []int64{3}, 9, raises("Index", 3, 3), 4, 0, "new 0, alloc 0 4, touch 0, end 0 4"},
	} {
		r.check(t)
	}
}

// TestCells: how many words each cell has, and which steps touch it.
func TestCells(t *testing.T) {
	t.Parallel()
	for _, r := range []runs{
		{"new @0; 1 (* int int int @0) := tuple 0 0 0 @0; end @0; value 0", []int64{1}, 9, answers(1, 0), 3, 0, "new 0, alloc 0 3, end 0 3"},
		{"new @0; 1 (d0 int @0) := make .0; 2 (d0 int @0) := make .1 0 1 @0; 3 int := case 1 [value 0] [bind 4 5; value 4]; 6 int := case 2 [value 0] [bind 7 8; value 7]; end @0; value 6",
			[]int64{1}, 9, answers(1, 0), 3, 0, "new 0, alloc 0 3, touch 0, end 0 3"},
		{"new @0; 1 (array int @0) := array 0 0 @0; 2 int := len 1; 3 int := int #0; 4 unit := put 1 3 2; 5 int := at 1 3; end @0; value 5",
			[]int64{2}, 9, answers(2, 2), 3, 0, "new 0, alloc 0 3, touch 0, touch 0, touch 0, end 0 3"},
		{"new @0; 1 (array int @0) := array 0 0 @0; 2 int := len 1; end @0; value 2", []int64{0}, 9, answers(0, 0), 1, 0, "new 0, alloc 0 1, touch 0, end 0 1"},
		// A closure has one word, and one for each variable and each handle that it captures.
		{"new @0; 1 (-> int int @0) := fn @0 [bind 2; value 2]; 3 int := apply 1 0; end @0; value 3", []int64{4}, 9, answers(4, 1), 1, 0, "new 0, alloc 0 1, touch 0, end 0 1"},
		{"new @0; 1 int := int #3; 2 (-> int int @0) := fn @0 [bind 3; 4 int := add 0 3; 5 int := add 4 1; 6 int := add 0 5; value 6]; 7 int := apply 2 0; end @0; value 7",
			[]int64{4}, 9, answers(15, 1), 3, 0, "new 0, alloc 0 3, touch 0, end 0 3"},
		{"new @0; new @1; 1 (-> int int @0 {0 1}) := fn @0 [bind 2; 3 (ref int @1) := ref 2 @1; 4 (* int int @0) := tuple 2 2 @0; 5 (ref int @1) := ref 2 @1; 6 int := deref 3; value 6]; 7 int := apply 1 0; end @0; end @1; value 7",
			[]int64{4}, 9, answers(4, 1), 7, 0, "new 0, new 1, alloc 0 3, touch 0, alloc 1 1, alloc 0 2, alloc 1 1, touch 1, end 0 5, end 1 2"},
		// The closure inside is made with what the one around has captured for it.
		{"new @0; 1 (-> int (-> int int @0) @0 {0}) := fn @0 [bind 2; 3 (-> int int @0) := fn @0 [bind 4; 5 int := add 0 2; 6 int := add 5 4; value 6]; value 3]; 7 (-> int int @0) := apply 1 0; 8 int := apply 7 0; end @0; value 8",
			[]int64{4}, 9, answers(12, 2), 6, 0, "new 0, alloc 0 3, touch 0, alloc 0 3, touch 0, end 0 6"},
		// Handles of regions that begin in the lambda are its own.
		{"new @0; 1 (-> int int @0) := fn @0 [bind 2; new @1; 3 (d0 int @1) := call .0 @1 keep 2; end @1; value 2]; 4 int := apply 1 0; end @0; value 4",
			[]int64{4}, 9, answers(4, 2), 4, 0, "new 0, alloc 0 1, touch 0, new 1, alloc 1 3, end 1 3, end 0 1"},
		{"new @0; new @1; 1 (-> int int @0 {1}) := fn @0 [bind 2; 3 (d0 int @1) := call .0 @1 keep 2; value 2]; 4 int := apply 1 0; end @0; end @1; value 4",
			[]int64{4}, 9, answers(4, 2), 5, 0, "new 0, new 1, alloc 0 2, touch 0, alloc 1 3, end 0 2, end 1 3"},
		// A callee's end gives back what it owns, and nothing else.
		{"new @0; 1 (* int int @0) := tuple 0 0 @0; 2 int := call .1 (int int) @0 last 1; value 2", []int64{4}, 9, answers(4, 1), 2, 0, "new 0, alloc 0 2, touch 0, end 0 2"},
		{"new @0; 1 (* int int @0) := tuple 0 0 @0; 2 int := call .1 (int int) @0 keep 1; 3 int := call .1 (int int) @0 last 1; value 2", []int64{4}, 9, answers(4, 2), 2, 0, "new 0, alloc 0 2, touch 0, touch 0, end 0 2"},
	} {
		r.check(t)
	}
}

// TestTouched: FTouch, and what it comes ahead of.
func TestTouched(t *testing.T) {
	t.Parallel()
	for _, r := range []runs{
		// A new cell without a handle, or with one whose instance has ended.
		{"new @0; end @0; 1 (* int int @0) := tuple 0 0 @0; value 0", []int64{4}, 9, faults(api.FTouch, 0), 0, 0, "new 0, end 0"},
		{"new @0; end @0; 1 (d0 int @0) := make .0; value 0", []int64{4}, 9, answers(4, 0), 0, 0, "new 0, end 0"},
		{"fun g 0 1 0 {} (int) int [1 (ref int @0) := ref 0 @0; value 0]; fun main (int) int [new @0; 1 int := call .3 @0 0; end @0; value 0]", []int64{4}, 9, faults(api.FTouch, 1), 0, 0, "new 0"},
		{"fun g 0 2 0 {0 1} (int) int [end @0; 1 (ref int @1) := ref 0 @1; end @1; value 0]; fun main (int) int [new @0; 1 int := call .3 @0 @0 last keep 0; value 0]",
			[]int64{4}, 9, faults(api.FTouch, 1), 0, 0, "new 0, end 0"},
		// Size, and the ticks of an array, come ahead of it.
		{"new @0; end @0; 1 (array int @0) := array 0 0 @0; value 0", []int64{-1}, 9, raises("Size", -1, 0), 0, 0, "new 0, end 0"},
		{"new @0; end @0; 1 (array int @0) := array 0 0 @0; value 0", []int64{4097}, 9, raises("Size", 4097, 0), 0, 0, "new 0, end 0"},
		{"new @0; end @0; 1 (array int @0) := array 0 0 @0; value 0", []int64{10}, 9, faults(api.FFuel, 9), 0, 0, "new 0, end 0"},
		{"new @0; end @0; 1 (array int @0) := array 0 0 @0; value 0", []int64{7}, 9, faults(api.FTouch, 7), 0, 0, "new 0, end 0"},
		// It comes ahead of Index, and of ticks.
		{"new @0; 1 (array int @0) := array 0 0 @0; end @0; 2 int := at 1 0; value 2", []int64{2}, 9, faults(api.FTouch, 2), 3, 0, "new 0, alloc 0 3, end 0 3"},
		{"new @0; 1 (array int @0) := array 0 0 @0; end @0; 2 unit := put 1 0 0; value 0", []int64{2}, 9, faults(api.FTouch, 2), 3, 0, "new 0, alloc 0 3, end 0 3"},
		{"new @0; 1 (array int @0) := array 0 0 @0; end @0; 2 int := len 1; value 0", []int64{2}, 9, faults(api.FTouch, 2), 3, 0, "new 0, alloc 0 3, end 0 3"},
		{"new @0; 1 (-> int int @0) := fn @0 [bind 2; value 2]; end @0; 3 int := apply 1 0; value 3", []int64{2}, 0, faults(api.FTouch, 0), 1, 0, "new 0, alloc 0 1, end 0 1"},
		{"new @0; 1 (-> int int @0) := fn @0 [bind 2; value 2]; 3 int := apply 1 0; end @0; value 3", []int64{2}, 0, faults(api.FFuel, 0), 1, 1, "new 0, alloc 0 1, touch 0"},
		{"new @0; end @0; 1 (d0 int @0) := call .0 @0 keep 0; value 0", []int64{2}, 0, faults(api.FTouch, 0), 0, 0, "new 0, end 0"},
		{"new @0; 1 (d0 int @0) := call .0 @0 keep 0; value 0", []int64{2}, 0, faults(api.FFuel, 0), 0, 0, "new 0"},
		{"new @0; 1 (ref int @0) := ref 0 @0; end @0; 2 unit := set 1 0; value 0", []int64{2}, 9, faults(api.FTouch, 0), 1, 0, "new 0, alloc 0 1, end 0 1"},
		{"new @0; 1 (d0 int @0) := make .0; 2 (d0 int @0) := make .1 0 1 @0; end @0; 3 int := case 1 [value 0] [bind 4 5; value 4]; 6 int := case 2 [value 0] [bind 7 8; value 7]; value 6",
			[]int64{1}, 9, faults(api.FTouch, 0), 3, 0, "new 0, alloc 0 3, end 0 3"},
		// A closure keeps handles, but owns nothing: its frames can end nothing with them.
		{"new @0; new @1; 1 (-> int int @0 {1}) := fn @0 [bind 2; 3 (ref int @1) := ref 2 @1; end @1; value 2]; 4 int := apply 1 0; 5 int := apply 1 0; end @1; 6 int := apply 1 0; value 6",
			[]int64{1}, 9, faults(api.FTouch, 3), 4, 2, "new 0, new 1, alloc 0 2, touch 0, alloc 1 1, touch 0, alloc 1 1, end 1 2, touch 0"},
		// Where the frame has no handle the closure captures none, but the word counts.
		{"new @0; new @1; end @1; 1 (-> int int @0 {1}) := fn @0 [bind 2; 3 (ref int @1) := ref 2 @1; value 2]; 4 int := apply 1 0; value 4",
			[]int64{1}, 9, faults(api.FTouch, 1), 2, 2, "new 0, new 1, end 1, alloc 0 2, touch 0"},
		// Two handles may own one instance: it ends once.
		{"fun g 0 2 0 {0 1} (int) int [end @0; end @1; value 0]; fun main (int) int [new @0; 1 int := call .3 @0 @0 last last 0; value 0]", []int64{1}, 9, answers(1, 1), 0, 0, "new 0, end 0"},
		{"fun g 0 2 0 {0 1} (int) int [end @0; end @1; end @0; value 0]; fun main (int) int [new @0; 1 int := call .3 @0 @0 last last 0; value 0]", []int64{1}, 9, faults(api.FTouch, 1), 0, 0, "new 0, end 0"},
		// A handle that the caller has handed over is gone; one that does not own hands nothing over.
		{"new @0; 1 (d0 int @0) := call .0 @0 last 0; end @0; value 0", []int64{1}, 9, faults(api.FTouch, 1), 3, 0, "new 0, alloc 0 3, end 0 3"},
		{"fun g 0 1 0 {0} (int) int [1 (d0 int @0) := call .0 @0 last 0; value 0]; fun main (int) int [new @0; 1 int := call .3 @0 keep 0; 2 int := call .3 @0 last 0; value 0]",
			[]int64{1}, 9, answers(1, 4), 6, 0, "new 0, alloc 0 3, alloc 0 3, end 0 6"},
	} {
		r.check(t)
	}
}

// TestRaised: what ends where an exception leaves frames, and in which order.
func TestRaised(t *testing.T) {
	t.Parallel()
	three := "new @2; new @0; new @1; "
	deep := "fun g 0 1 0 {0} (int) int [new @1; new @2; 1 int := raise .3 0; end @0; end @1; end @2; value 1]; "
	for _, r := range []runs{
		{three + "1 int := raise .3 0; end @0; end @1; end @2; value 0", []int64{8}, 9, raises("no", 8, 0), 0, 0, "new 0, new 1, new 2, end 2, end 1, end 0"},
		// In the frame of the handler, what its handle does not keep.
		{three + "1 int := handle {0} [end @1; 2 int := raise .3 0; end @2; value 2] [bind 3; value 3] [exn 3; bind 4; value 4]; end @0; value 1", []int64{8}, 9, answers(8, 0), 0, 0,
			"new 0, new 1, new 2, end 2, end 0, end 1"},
		{three + "1 int := handle {} [2 int := raise .3 0; end @0; end @1; end @2; value 2] [bind 3; value 3] [exn 3; bind 4; value 4]; value 1", []int64{8}, 9, answers(8, 0), 0, 0,
			"new 0, new 1, new 2, end 2, end 1, end 0"},
		{three + "1 int := handle {0 1 2} [2 int := raise .3 0; value 2] [bind 3; value 3] [exn 3; bind 4; value 4]; end @0; end @1; end @2; value 1", []int64{8}, 9, answers(8, 0), 0, 0,
			"new 0, new 1, new 2, end 1, end 2, end 0"},
		// The innermost handle with an arm for it; arms, and what comes behind, are not inside.
		{"new @0; 1 int := handle {0} [2 int := handle {0} [3 int := raise .3 0; value 3] [bind 4; value 4] [exn 4; bind 5; value 5]; value 2] [bind 6; end @0; value 6] [exn 3; bind 7; end @0; 8 int := int #2; value 8]; value 1",
			[]int64{8}, 9, answers(2, 0), 0, 0, "new 0, end 0"},
		{"new @0; 1 int := handle {0} [value 0] [bind 2; 3 int := raise .3 0; end @0; value 3] [exn 3; bind 4; end @0; value 4]; value 1", []int64{8}, 9, raises("no", 8, 0), 0, 0, "new 0, end 0"},
		{"new @0; 1 int := handle {0} [2 int := raise .4 0; value 2] [bind 3; end @0; value 3] [exn 4; bind 4; 5 int := raise .4 4; end @0; value 4] [exn 3; bind 6; end @0; value 6]; value 1",
			[]int64{8}, 9, raises("why", 8, 0), 0, 0, "new 0, end 0"},
		// Frames are left from the innermost one, whose handed over region ends too.
		{deep + "fun main (int) int [" + three + "1 int := call .3 @0 last 0; end @1; end @2; value 0]", []int64{8}, 9, raises("no", 8, 1), 0, 0,
			"new 0, new 1, new 2, new 3, new 4, end 4, end 3, end 1, end 2, end 0"},
		{deep + "fun main (int) int [" + three + "1 int := call .3 @0 keep 0; end @0; end @1; end @2; value 0]", []int64{8}, 9, raises("no", 8, 1), 0, 0,
			"new 0, new 1, new 2, new 3, new 4, end 4, end 3, end 2, end 1, end 0"},
		{deep + "fun main (int) int [" + three + "1 int := handle {2} [end @1; 2 int := call .3 @0 last 0; value 2] [bind 3; value 3] [exn 3; bind 4; value 4]; end @2; value 1]", []int64{8}, 9, answers(8, 1), 0, 0,
			"new 0, new 1, new 2, end 2, new 3, new 4, end 4, end 3, end 1, end 0"},
		// A handle that does not own stays: the arm can make cells with it.
		{"fun g 0 1 0 {0} (int) (d0 int @0) [1 (d0 int @0) := handle {} [2 int := raise .3 0; end @0; 3 (d0 int @0) := make .0; value 3] [bind 4; value 4] [exn 3; bind 5; 6 (d0 int @0) := make .0; 7 (d0 int @0) := make .1 5 6 @0; value 7]; value 1]; " +
			"fun main (int) int [new @0; 1 (d0 int @0) := call .3 @0 keep 0; end @0; value 0]", []int64{8}, 9, answers(8, 1), 3, 0, "new 0, alloc 0 3, end 0 3"},
		// In a closure's frame.
		{"new @0; 1 (-> int int @0) := fn @0 [bind 2; new @1; 3 (ref int @1) := ref 2 @1; 4 int := raise .3 2; end @1; value 2]; 5 int := handle {0} [6 int := apply 1 0; value 6] [bind 7; end @0; value 7] [exn 3; bind 8; end @0; value 8]; value 5",
			[]int64{8}, 9, answers(8, 1), 2, 0, "new 0, alloc 0 1, touch 0, new 1, alloc 1 1, end 1 1, end 0 1"},
		// Neither FFuel nor FTouch ends an instance.
		{"new @0; 1 (ref int @0) := ref 0 @0; 2 int := handle {0} [3 (d0 int @0) := call .0 @0 keep 0; value 0] [bind 4; value 4] [exn 3; bind 5; value 5]; end @0; value 2", []int64{8}, 0, faults(api.FFuel, 0), 1, 1, "new 0, alloc 0 1"},
		{"new @0; new @1; 1 (ref int @0) := ref 0 @0; end @1; 2 int := handle {0} [3 (ref int @1) := ref 0 @1; value 0] [bind 4; value 4] [exn 3; bind 5; value 5]; end @0; value 2", []int64{8}, 0, faults(api.FTouch, 0), 1, 1,
			"new 0, new 1, alloc 0 1, end 1"},
	} {
		r.check(t)
	}
}

// TestStuck: what can't be run, and what can though Check refuses it.
func TestStuck(t *testing.T) {
	t.Parallel()
	for _, text := range []string{
		"1 int := bool #1; value 0", "value 1", "1 bool := less 0 0; value 1", "1 int := deref 0; value 1", "new @0; new @0; value 0", "end @0; value 0",
		"new @0; 1 (d0 int @0) := make .0; value 1", "1 int := handle [new @0; 2 (d0 int @0) := make .0; value 2] [bind 3; value 0]; value 1",
		"1 int := handle {0} [value 0] [bind 2; value 0]; value 1",
	} {
		runs{text, []int64{1}, 9, faults(api.FStuck, 0), 0, 0, ""}.isStuck(t)
	}
	for _, args := range [][]int64{nil, {1, 2}} {
		runs{"value 0", args, 9, faults(api.FStuck, 0), 0, 0, ""}.isStuck(t)
	}
	runs{"value 0", []int64{1}, 9, answers(1, 0), 0, 0, ""}.check(t)
	runs{"new @0; 1 bool := less 0 0; 2 int := if 1 [value 0] [end @0; value 0]; value 2", []int64{1}, 9, answers(1, 0), 0, 0, "new 0, end 0"}.check(t)
	runs{"new @0; 1 int := handle {} [value 0] [bind 2; value 0]; value 1", []int64{1}, 9, answers(1, 0), 0, 0, "new 0"}.check(t)
}

func (r runs) isStuck(t *testing.T) {
	t.Helper()
	if got := steps.Run(samples.Program(inMain(r.text)), r.args, r.fuel); !isSameRun(got, stuck) {
		t.Errorf("Run: %s: %+v", r.text, got)
	}
}

// TestFuel: more fuel than MaxFuel counts as that, less than none as none.
func TestFuel(t *testing.T) {
	t.Parallel()
	loop := "fun loop (int) int [1 int := call .3 0; value 1]; fun main (int) int [1 int := call .3 0; value 1]"
	for fuel, want := range map[int]int{-5: 0, 0: 0, 1: 1, api.MaxFuel: api.MaxFuel, api.MaxFuel + 1: api.MaxFuel, plenty: api.MaxFuel, -plenty - 1: 0} {
		runs{loop, []int64{1}, fuel, faults(api.FFuel, want), 0, 0, ""}.check(t)
	}
}

// TestFramesTexts: frames at events of a program that is written out.
func TestFramesTexts(t *testing.T) {
	t.Parallel()
	p := samples.Program(library + `fun g 0 1 0 {0} (int) int [new @1; 1 (-> int int @1 {0}) := fn @1 [bind 2; new @2; 3 (ref int @0) := ref 2 @0; 4 int := raise .3 2; end @2; value 2];
		5 bool := less 0 0; 6 int := if 5 [end @1; value 0] [7 int := apply 1 0; end @1; value 7]; end @0; value 6];
		fun main (int) int [new @1; new @0; 1 int := handle {1} [2 int := call .3 @0 last 0; value 2] [bind 3; value 3] [exn 3; bind 4; value 4]; end @1; value 1]`)
	checkIs(t, p, api.OK, api.Spot{})
	own := func(fun int, path, regions, instances []int) api.Frame {
		return api.Frame{Fun: fun, Path: path, Regions: regions, Instances: instances}
	}
	main := func(path, regions, instances []int) api.Frame { return own(4, path, regions, instances) }
	waiting := main([]int{2, 0, 0}, []int{1}, []int{0})
	within := own(3, []int{3, 1, 0}, []int{0, 1}, []int{1, 2})
	for k, want := range [][]api.Frame{
		1:  {main([]int{0}, []int{1}, []int{0})},
		2:  {main([]int{1}, []int{1, 0}, []int{0, 1})},
		3:  {waiting, own(3, []int{0}, []int{0, 1}, []int{1, 2})},
		4:  {waiting, own(3, []int{1}, []int{0, 1}, []int{1, 2})},
		5:  {waiting, within}, // the touch of the closure
		6:  {waiting, within, own(3, []int{1, 0, 0}, []int{2}, []int{3})},
		7:  {waiting, within, own(3, []int{1, 0, 1}, []int{2}, []int{3})},
		8:  {waiting, within, own(3, []int{1, 0, 2}, nil, nil)}, // the exception ends what the lambda owns,
		9:  {waiting, own(3, []int{3, 1, 0}, []int{0}, []int{1})},
		10: {waiting, own(3, []int{3, 1, 0}, nil, nil)}, // what g owns, the greatest number first,
		11: {main([]int{3}, nil, nil)},                  // and main's handle keeps its own
		12: nil,
	} {
		if k == 0 {
			continue
		}
		got, e := steps.Frames(p, []int64{1}, 9, k)
		if e != api.OK || !areSameFrames(got, want) {
			t.Errorf("event %d: %v %d, not %v", k, got, e, want)
		}
	}
	for _, k := range []int{0, -1, plenty, -plenty - 1} {
		if got, e := steps.Frames(p, []int64{1}, 9, k); e != api.OK || len(got) != 0 {
			t.Errorf("event %d: %v %d", k, got, e)
		}
	}
	refused := samples.Program(inMain("new @0; value 0"))
	if got, e := steps.Frames(refused, []int64{1}, 9, 1); e != api.ErrLeft || got != nil {
		t.Errorf("%v %d", got, e)
	}
	if got, e := steps.Frames(refused, nil, 9, 1); e != api.ErrLeft || got != nil {
		t.Errorf("%v %d", got, e)
	}
	if got, e := steps.Frames(p, nil, 9, 1); e != api.ErrShape || got != nil {
		t.Errorf("%v %d", got, e)
	}
}
