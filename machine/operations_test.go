package machine_test

import (
	"math"
	"strconv"
	"testing"

	"heriot/api"
	"heriot/samples"
)

// prepared is the begin of a code: 0 has 1, 6 has 4097 and 7 has 0; 3 is a plain cell of two ints, 5 an array of one, 2 a closure, and 4 a cell whose instance has ended. There is a handle of 0 alone, and 1 and 8 are empty. By then there are 7 events.
const prepared = "[(load 0 #1) (load 6 #4097) (load 7 #0) (new 0) (cell 3 0 [0 7]) (new 1) (cell 4 1 [0 7]) (end 1) (array 5 0 0 7) (close 2 0 1 [7 1] [0 1])"

// helpers are the functions from 1 on: 1 makes a cell in a region that it is given, 2 ends that, 3 raises, and 4 gives back what it gets.
const helpers = `('cell 1 2 1 [0] [[(cell 1 0 [0 0]) (return 1)]]) ('end 0 1 3 [0 2] [[(end 0) (load 0 #9) (return 0)]])
 ('raise 1 1 0 [] [[(raise 3 0)]]) ('same 1 1 0 [] [[(return 0)]])`

// imageFor is an image whose main has the prepared registers, then some instructions, and then gives register 8.
func imageFor(instructions string) []byte {
	return samples.Bytes("HRI [('main 0 9 3 [] [" + prepared + instructions + " (return 8)] [(add 1 1 7) (return 1)]]) " + helpers + "] [(3 'no)] 0")
}

// does looks at what instructions come to behind the prepared ones: the fault, or else the answer, and how many more events there are.
func does(t *testing.T, instructions string, fault int, answer int64, events int) api.Run {
	t.Helper()
	image := imageFor(instructions)
	if _, ok := judgeImage(image); !ok {
		t.Errorf("not well-formed: %s", instructions)
		return api.Run{}
	}
	run := held(t, image, nil, 20+api.MaxArray).out
	if run.Result.Fault != fault || run.Result.Answer != answer || len(run.Events) != 7+events {
		t.Errorf("%s: %+v, not the fault %d, the answer %d and %d more events", instructions, run, fault, answer, events)
	}
	return run
}

// fails looks at instructions each of which ends the run by a fault, without an event of its own.
func fails(t *testing.T, fault int, instructions ...string) {
	t.Helper()
	for _, in := range instructions {
		does(t, in, fault, 0, 0)
	}
}

// TestEmpty: an empty register that is read is stuck, ahead of all else.
func TestEmpty(t *testing.T) {
	t.Parallel()
	fails(t, api.FStuck,
		"(move 8 1)", "(make 8 0 0 [1])", "(make 8 2 0 [0 1])", "(cell 8 0 [1])", "(cell 8 2 [0 1])", "(field 8 1 0)", "(write 1 0)", "(write 3 1)", "(write 4 1)",
		"(close 8 2 1 [1 0] [])", "(apply 8 1 0)", "(apply 8 2 1)", "(apply 8 4 1)", "(call 8 4 [1] [])", "(call 8 1 [1] [(2 0)])", "(array 8 0 1 0)", "(array 8 0 0 1)", "(array 8 2 6 1)",
		"(at 8 1 0)", "(at 8 4 1)", "(put 1 0 0)", "(put 5 1 0)", "(put 5 6 1)", "(put 4 0 1)", "(len 8 1)", "(raise 3 1)", "(print 1)",
		"(add 8 1 0)", "(add 8 0 1)", "(sub 8 1 0)", "(mul 8 0 1)", "(div 8 1 7)", "(div 8 0 1)", "(mod 8 0 1)", "(eq 8 1 0)", "(less 8 0 1)",
		"(branch 1 11)", "(switch 1 [(11 [])])", "(return 1)", "")
	// The last register of a Close is not read.
	does(t, "(close 8 0 1 [7 1] []) (apply 8 8 7)", api.FNone, 0, 2)
}

// TestKinds: a cell where an int is asked for, and an int where a cell is, ahead of the touch of what has ended.
func TestKinds(t *testing.T) {
	t.Parallel()
	fails(t, api.FStuck,
		"(field 8 0 0)", "(write 0 0)", "(apply 8 0 0)", "(array 8 0 3 0)", "(array 8 2 3 0)", "(at 8 0 0)", "(at 8 5 3)", "(at 8 4 3)", "(put 0 0 0)", "(put 5 3 0)", "(put 4 3 0)", "(len 8 0)",
		"(raise 3 3)", "(raise 3 4)", "(print 3)", "(add 8 3 0)", "(add 8 0 3)", "(sub 8 3 0)", "(mul 8 0 3)", "(div 8 3 7)", "(div 8 0 3)", "(mod 8 3 7)", "(eq 8 3 3)", "(less 8 0 3)", "(less 8 4 0)",
		"(branch 3 11)", "(return 3)", "(return 4)")
	// Of which kind a cell is, and which fields it has, is asked at the touch.
	fails(t, api.FStuck,
		"(field 8 3 2)", "(field 8 3 9223372036854775807)", "(field 8 5 0)", "(field 8 2 0)", "(write 5 0)", "(write 2 0)", "(apply 8 3 0)", "(apply 8 5 0)",
		"(at 8 3 7)", "(at 8 2 7)", "(put 3 7 7)", "(len 8 3)", "(len 8 2)", "(switch 3 [(11 [0 0])])", "(switch 5 [(11 [])])", "(switch 2 [(11 [])])")
	for _, in := range []string{"(make 1 0 0 [0]) (field 8 1 0)", "(make 1 0 0 [0]) (write 1 0)", "(make 1 0 0 [0]) (len 8 1)", "(make 1 0 0 [0]) (apply 8 1 0)", "(cell 1 0 []) (field 8 1 0)", "(cell 1 0 []) (write 1 0)"} {
		does(t, in, api.FStuck, 0, 1)
	}
	fails(t, api.FTouch,
		"(field 8 4 0)", "(field 8 4 7)", "(write 4 0)", "(apply 8 4 0)", "(at 8 4 0)", "(at 8 4 6)", "(put 4 0 0)", "(len 8 4)", "(switch 4 [(11 [])])")
}

// TestHandles: what a frame can do with the names of regions.
func TestHandles(t *testing.T) {
	t.Parallel()
	fails(t, api.FTouch,
		"(make 8 1 0 [])", "(make 8 2 0 [0])", "(cell 8 1 [])", "(cell 8 2 [0])", "(close 8 2 1 [1] [])", "(array 8 2 7 0)", "(array 8 1 0 0)", "(end 1)", "(end 2)",
		"(call 8 1 [0] [(1 0)])", "(call 8 1 [0] [(2 1)])", "(call 8 2 [] [(0 1) (2 1)])")
	if run := does(t, "(array 8 2 0 0)", api.FTouch, 0, 0); run.Result.Ticks != 2 {
		t.Errorf("an array without a region: %+v", run)
	}
	if run := does(t, "(call 8 1 [0] [(2 1)])", api.FTouch, 0, 0); run.Result.Ticks != 1 {
		t.Errorf("a call without a handle: %+v", run)
	}
	does(t, "(new 0) (end 0) (end 0)", api.FTouch, 0, 2) // a new handle takes the place of the one that was there
	does(t, "(end 0) (field 8 3 0)", api.FTouch, 0, 1)   //
	does(t, "(new 0) (field 8 3 0)", api.FNone, 1, 2)    // whose instance goes on
	does(t, "(new 1) (cell 3 1 [0]) (new 2) (end 2) (end 1) (move 8 0)", api.FNone, 1, 5)
	does(t, "(call 8 1 [0] [(0 0)]) (field 8 8 1) (end 0)", api.FNone, 1, 3)
	does(t, "(call 8 1 [0] [(0 1)]) (end 0)", api.FTouch, 0, 1)
	does(t, "(call 8 2 [] [(0 0) (0 0)]) (field 8 3 0)", api.FNone, 1, 1) // what does not own ends nothing
	does(t, "(call 8 2 [] [(0 1) (0 0)]) (end 0)", api.FTouch, 0, 1)      // both are looked up ahead of the one that goes
	does(t, "(call 8 2 [] [(0 0) (0 1)]) (field 8 3 0)", api.FNone, 1, 1) // it was handed to the second one, which goes with its frame
	does(t, "(call 8 2 [] [(0 1) (0 1)]) (field 8 3 0)", api.FTouch, 0, 1)
	does(t, "(new 1) (call 8 2 [] [(0 1) (1 1)]) (cell 8 1 [])", api.FTouch, 0, 2)
	// A callee does not own what its caller did not.
	does(t, "(new 1) (close 8 1 1 [7 1] []) (apply 8 8 0) (end 1)", api.FNone, 1, 4)
}

// TestClosures: what a closure has with it.
func TestClosures(t *testing.T) {
	t.Parallel()
	main := func(instructions, lambda string) []byte {
		return samples.Bytes("HRI [('main 0 5 3 [] [[(load 0 #5) (load 1 #6) (new 0) (new 2) " + instructions + " (return 4)] [" + lambda + "]])] [] 0")
	}
	for _, c := range []struct {
		instructions, lambda string
		fault                int
		answer               int64
		words                int // of the closure
	}{
		{"(close 3 0 1 [2] []) (apply 4 3 1)", "(return 2)", api.FNone, 6, 1},
		{"(close 3 0 1 [2] []) (apply 4 3 1)", "(return 0)", api.FStuck, 0, 1}, // fresh registers
		{"(close 3 0 1 [0 1 2] [0 1 2]) (load 0 #9) (apply 4 3 1)", "(mul 2 2 0) (add 2 2 1) (return 2)", api.FNone, 36, 6},
		{"(close 3 0 1 [0 0 2] []) (apply 4 3 1)", "(return 0)", api.FNone, 5, 3},
		{"(close 3 0 1 [0 0] []) (apply 4 3 1)", "(return 0)", api.FNone, 6, 2}, // the argument comes behind what was captured
		{"(close 3 0 1 [0 2] [0]) (apply 4 3 1)", "(cell 1 0 [0]) (field 1 1 0) (return 1)", api.FNone, 5, 3},
		{"(close 3 0 1 [0 2] [2]) (apply 4 3 1)", "(cell 1 0 [0]) (field 1 1 0) (return 1)", api.FTouch, 0, 3},
		{"(close 3 0 1 [0 2] [1 1 1]) (apply 4 3 1)", "(cell 1 1 [0]) (return 0)", api.FTouch, 0, 5}, // there was no handle, but it counts
		{"(close 3 0 1 [0 2] [2 2]) (apply 4 3 1) (cell 4 2 [1]) (field 4 4 0)", "(end 2) (return 0)", api.FNone, 6, 4},
		{"(close 3 0 1 [0 2] [2]) (end 2) (apply 4 3 1)", "(end 2) (return 0)", api.FNone, 5, 3}, // the handle of what has ended
		{"(close 3 0 1 [0 2] [2]) (end 2) (apply 4 3 1)", "(cell 1 2 []) (return 0)", api.FTouch, 0, 3},
		{"(close 3 0 1 [0 2] [2]) (new 2) (apply 4 3 1)", "(new 1) (cell 1 2 [0]) (field 1 1 0) (end 1) (return 1)", api.FNone, 5, 3},
		{"(close 3 0 1 [0 2] [0]) (move 2 3) (apply 4 3 2)", "(field 2 2 0) (return 2)", api.FStuck, 0, 3},
		{"(cell 2 2 [1]) (close 3 0 1 [2 0] [0]) (load 2 #3) (apply 4 3 1)", "(field 2 2 0) (mul 2 2 0) (return 2)", api.FNone, 36, 3},
	} {
		image := main(c.instructions, c.lambda)
		if _, ok := judgeImage(image); !ok {
			t.Errorf("not well-formed: %s", c.instructions)
			continue
		}
		run := held(t, image, nil, 5).out
		words := 0
		for _, e := range run.Events {
			if e.Kind == api.VAlloc && e.Region == 0 && words == 0 {
				words = e.Words
			}
		}
		if run.Result.Fault != c.fault || run.Result.Answer != c.answer || words != c.words {
			t.Errorf("%s, %s: %+v, %d words", c.instructions, c.lambda, run, words)
		}
	}
}

// TestArithmetic: ints wrap, and division rounds towards zero.
func TestArithmetic(t *testing.T) {
	t.Parallel()
	for _, c := range []struct {
		op   string
		a, b int64
		want int64
	}{
		{"add", 3, 4, 7}, {"add", math.MaxInt64, 1, math.MinInt64}, {"sub", math.MinInt64, 1, math.MaxInt64}, {"sub", 3, 4, -1}, {"mul", -3, 4, -12}, {"mul", math.MaxInt64, 2, -2},
		{"div", -7, 2, -3}, {"div", 7, -2, -3}, {"div", math.MinInt64, -1, math.MinInt64}, {"mod", -7, 2, -1}, {"mod", 7, -2, 1}, {"mod", math.MinInt64, -1, 0},
		{"eq", 3, 3, 1}, {"eq", 3, 4, 0}, {"less", 3, 4, 1}, {"less", 4, 4, 0}, {"less", math.MinInt64, math.MaxInt64, 1},
	} {
		text := "(load 1 #" + strconv.FormatInt(c.a, 10) + ") (load 2 #" + strconv.FormatInt(c.b, 10) + ") (" + c.op + " 8 1 2)"
		does(t, text, api.FNone, c.want, 0)
	}
	for _, op := range []string{"div", "mod"} {
		run := does(t, "(load 1 #-7) ("+op+" 8 1 7)", api.FExn, 0, 1)
		if run.Result.Exn != "Div" || run.Result.Payload != 0 {
			t.Errorf("%+v", run)
		}
	}
}

// TestArrays: sizes, numbers of elements, and the order of what an array asks for.
func TestArrays(t *testing.T) {
	t.Parallel()
	for _, c := range []struct {
		instructions string
		answer       int64
		events       int
	}{
		{"(at 8 5 7)", 0, 1}, {"(put 5 7 6) (at 8 5 7)", 4097, 2}, {"(len 8 5)", 1, 1}, {"(array 1 0 7 0) (len 8 1)", 0, 2},
		{"(load 1 #4096) (array 1 0 1 3) (load 8 #4095) (at 8 1 8) (field 8 8 0)", 1, 3},
		{"(load 1 #4096) (array 1 0 1 6) (load 8 #4095) (put 1 8 3) (at 8 1 8) (field 8 8 1)", 0, 4},
		{"(load 1 #4096) (array 1 0 1 6) (len 8 1)", 4096, 2},
	} {
		does(t, c.instructions, api.FNone, c.answer, c.events)
	}
	for _, c := range []struct {
		instructions string
		exn          string
		payload      int64
		events       int
	}{
		{"(array 8 2 6 0)", "Size", 4097, 1}, // ahead of the handle that there is none of
		{"(load 1 #-1) (array 8 0 1 0)", "Size", -1, 1},
		{"(load 1 #-9223372036854775808) (array 8 0 1 0)", "Size", math.MinInt64, 1},
		{"(at 8 5 0)", "Index", 1, 2}, {"(at 8 5 6)", "Index", 4097, 2}, {"(load 1 #-1) (at 8 5 1)", "Index", -1, 2},
		{"(put 5 0 3)", "Index", 1, 2}, {"(load 1 #-1) (put 5 1 1)", "Index", -1, 2}, {"(load 1 #9223372036854775807) (put 5 1 1)", "Index", math.MaxInt64, 2},
	} {
		if run := does(t, c.instructions, api.FExn, 0, c.events); run.Result.Exn != c.exn || run.Result.Payload != c.payload {
			t.Errorf("%s: %+v", c.instructions, run)
		}
	}
}

// TestSwitch: an int, or a made cell, chooses a case with as many registers as it has fields.
func TestSwitch(t *testing.T) {
	t.Parallel()
	for _, c := range []struct {
		instructions string
		fault        int
		answer       int64
		events       int
	}{
		{"(switch 7 [(12 []) (11 [])]) (load 7 #8) (move 8 7)", api.FNone, 0, 0},
		{"(switch 0 [(12 []) (11 [])]) (load 7 #8) (move 8 7)", api.FNone, 8, 0},
		{"(switch 6 [(12 []) (11 [])]) (load 7 #8) (move 8 7)", api.FStuck, 0, 0},
		{"(load 1 #-1) (switch 1 [(12 []) (12 [])])", api.FStuck, 0, 0},
		{"(switch 7 [])", api.FStuck, 0, 0},
		{"(switch 7 [(11 [8])])", api.FStuck, 0, 0}, // an int has no fields
		{"(make 1 0 0 []) (switch 1 [(12 [])]) (move 8 0)", api.FNone, 1, 2},
		{"(make 1 0 0 [0]) (switch 1 [(12 [8])])", api.FNone, 1, 2},
		{"(make 1 0 0 [0]) (switch 1 [(12 [])])", api.FStuck, 0, 2}, // it has been touched by then
		{"(make 1 0 0 [0]) (switch 1 [(12 [8 8])])", api.FStuck, 0, 2},
		{"(make 1 0 1 [0]) (switch 1 [(12 [8])])", api.FStuck, 0, 2},
		{"(make 1 0 9223372036854775807 [0]) (switch 1 [(12 [8])])", api.FStuck, 0, 2},
		{"(make 1 0 2 [0 6 7]) (switch 1 [(12 [8]) (12 []) (12 [1 8 0])])", api.FNone, 4097, 2},
		{"(make 1 0 0 [0 6 7]) (switch 1 [(12 [8 8 8])])", api.FNone, 0, 2}, // the last one stays
		{"(make 1 0 0 [0 6 7]) (switch 1 [(12 [8 1 1])])", api.FNone, 1, 2}, // the switched one too
		{"(make 1 0 0 [3]) (switch 1 [(12 [8])]) (field 8 8 0)", api.FNone, 1, 3},
	} {
		does(t, c.instructions, c.fault, c.answer, c.events)
	}
}

// TestJumps: branches go where their int is 0.
func TestJumps(t *testing.T) {
	t.Parallel()
	does(t, "(branch 7 12) (load 6 #2) (move 8 6)", api.FNone, 4097, 0)
	does(t, "(branch 0 12) (load 6 #2) (move 8 6)", api.FNone, 2, 0)
	does(t, "(branch 6 12) (load 6 #2) (move 8 6)", api.FNone, 2, 0)
	does(t, "(jump 12) (load 6 #2) (move 8 6)", api.FNone, 4097, 0)
	does(t, "(jump 11) (load 6 #2) (move 8 6)", api.FNone, 2, 0)
}

// TestMemory: cells may have more words than the store's have, and none.
func TestMemory(t *testing.T) {
	t.Parallel()
	many := ""
	for i := range 10000 {
		many += " " + strconv.Itoa(i/5000*6)
	}
	for _, c := range []struct {
		instructions string
		answer       int64
		events       int
	}{
		{"(cell 1 0 [" + many + "]) (field 8 1 4999)", 1, 2},
		{"(cell 1 0 [" + many + "]) (field 8 1 5000)", 4097, 2},
		{"(cell 1 0 [" + many + "]) (write 1 3) (field 8 1 9999)", 4097, 3},
		{"(cell 1 0 [" + many + " 3]) (field 1 1 10000) (field 8 1 0)", 1, 3},
		{"(cell 1 0 [" + many + "]) (cell 8 0 [0]) (field 8 8 0) (end 0)", 1, 4},
		{"(cell 1 0 []) (cell 8 0 [1]) (field 1 8 0) (end 0) (move 8 0)", 1, 4},
	} {
		does(t, c.instructions, api.FNone, c.answer, c.events)
	}
	run := does(t, "(new 1) (cell 1 1 ["+many+"]) (cell 8 1 []) (end 1) (move 8 0)", api.FNone, 1, 4)
	if len(run.Events) == 11 {
		want := []api.Event{{Kind: api.VNew, Region: 2, Held: 8}, {Kind: api.VAlloc, Region: 2, Words: 10000, Held: 10008}, {Kind: api.VAlloc, Region: 2, Held: 10008}, {Kind: api.VEnd, Region: 2, Words: 10000, Held: 8}}
		if !isSame(api.Run{Events: run.Events[7:]}, api.Run{Events: want}) || run.Peak != 10008 || run.Left != 8 {
			t.Errorf("%+v", run)
		}
	}
}

// TestShared: a cell is one cell for all that have it.
func TestShared(t *testing.T) {
	t.Parallel()
	does(t, "(move 1 3) (write 1 6) (field 8 3 0)", api.FNone, 4097, 2)
	does(t, "(cell 1 0 [3]) (write 3 6) (field 1 1 0) (field 8 1 0)", api.FNone, 4097, 4)
	does(t, "(call 1 4 [5] []) (put 1 7 6) (at 8 5 7)", api.FNone, 4097, 2)
	does(t, "(write 3 3) (field 1 3 0) (field 1 1 0) (field 8 1 1)", api.FNone, 0, 4)
	does(t, "(write 3 3) (write 3 6) (field 8 3 0)", api.FNone, 4097, 3)
	does(t, "(new 1) (cell 1 1 [6]) (write 3 1) (end 1) (field 8 3 0) (field 8 8 0)", api.FTouch, 0, 5)
}
