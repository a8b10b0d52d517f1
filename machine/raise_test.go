package machine_test

import (
	"slices"
	"testing"

	"heriot/api"
	"heriot/samples"
)

// ends are the instances that end in a run, in their order.
func ends(run api.Run) []int {
	var out []int
	for _, e := range run.Events {
		if e.Kind == api.VEnd {
			out = append(out, e.Region)
		}
	}
	return out
}

// raising is an image whose main begins with a number in 0, and whose other functions are: 1 raises 3 with what it gets, and owns the regions 1 and 0 by then; 2 does so by a call of 1 with a region of its own, 3 has a try for 4 alone around such a call; 4 gets a region.
func raising(codes string) []byte {
	return samples.Bytes("HRI [('main 0 6 4 [] [" + codes + "])" +
		`('raise 1 1 2 [] [[(new 1) (new 0) (raise 3 0)]])
 ('deep 1 2 3 [] [[(new 2) (call 1 1 [0] []) (return 1)]])
 ('tries 1 2 1 [] [[(new 0) (try [] [(4 1 4)]) (call 1 2 [0] []) (untry) (return 1)]])
 ('given 1 2 1 [0] [[(call 1 1 [0] []) (return 1)]])] [(3 'no) (4 'why)] 0`)
}

// TestRaise: who handles an exception, and which instances end, in which order.
func TestRaise(t *testing.T) {
	t.Parallel()
	for _, c := range []struct {
		codes   string
		fault   int
		answer  int64
		ends    []int
		payload int64
	}{
		{"[(load 0 #7) (raise 3 0)]", api.FExn, 0, nil, 7},
		{"[(load 0 #7) (new 3) (new 1) (new 2) (raise 3 0)]", api.FExn, 0, []int{2, 1, 0}, 7},
		{"[(load 0 #7) (new 0) (try [] [(4 1 6)]) (new 1) (call 1 3 [0] []) (untry) (return 1)]", api.FExn, 0, []int{5, 4, 3, 2, 1, 0}, 7},
		{"[(load 0 #7) (new 0) (try [] [(3 1 6)]) (new 1) (call 2 3 [0] []) (load 1 #0) (return 1)]", api.FNone, 7, []int{5, 4, 3, 2, 1, 0}, 0},
		{"[(load 0 #7) (new 0) (try [0] [(3 1 7)]) (new 1) (new 2) (call 2 3 [0] []) (load 1 #0) (end 0) (return 1)]", api.FNone, 7, []int{6, 5, 4, 3, 2, 1, 0}, 0},
		{"[(load 0 #7) (new 0) (try [0 2] [(3 1 7)]) (new 2) (new 1) (call 2 3 [0] []) (load 1 #0) (end 0) (end 2) (return 1)]", api.FNone, 7, []int{6, 5, 4, 3, 2, 0, 1}, 0},
		// A region that is not kept has no handle any more.
		{"[(load 0 #7) (new 0) (try [] [(3 1 5)]) (raise 3 0) (load 1 #0) (end 0) (return 1)]", api.FTouch, 0, []int{0}, 0},
		// The newest try with an arm, and it is closed by then, as are those that are newer.
		{"[(load 0 #7) (try [] [(3 1 6)]) (try [] [(3 2 5)]) (try [] [(4 1 7)]) (raise 3 0) (raise 3 2) (add 1 1 1) (return 1)]", api.FNone, 14, nil, 0},
		{"[(load 0 #7) (try [] [(3 1 6)]) (try [] [(3 2 5)]) (untry) (raise 3 0) (load 1 #1) (add 1 1 1) (return 1)]", api.FNone, 14, nil, 0},
		{"[(load 0 #7) (try [] [(3 1 3)]) (raise 3 0) (untry) (return 1)]", api.FStuck, 0, nil, 0},
		{"[(load 0 #7) (try [] []) (try [] [(3 1 4)]) (raise 3 0) (untry) (return 1)]", api.FNone, 7, nil, 0},
		{"[(load 0 #7) (untry) (return 0)]", api.FStuck, 0, nil, 0},
		{"[(load 0 #7) (try [] []) (untry) (untry) (return 0)]", api.FStuck, 0, nil, 0},
		// The exceptions that every program has.
		{"[(load 0 #7) (load 1 #0) (try [] [(3 2 6) (0 3 5)]) (div 4 0 1) (load 3 #9) (load 4 #8) (add 3 3 4) (return 3)]", api.FNone, 8, nil, 0},
		{"[(load 0 #7) (load 1 #-1) (try [] [(1 2 5) (2 3 6)]) (new 0) (array 4 0 1 0) (return 2) (return 3)]", api.FNone, -1, []int{0}, 0},
		{"[(load 0 #7) (load 1 #0) (raise 0 0)]", api.FExn, 0, nil, 7},
		// What a try keeps may begin behind it; of a handle that does not own, nothing ends, and it stays.
		{"[(load 0 #7) (new 0) (call 1 4 [0] [(0 0)]) (return 1)]", api.FExn, 0, []int{2, 1, 0}, 7},
		{"[(load 0 #7) (new 0) (call 1 4 [0] [(0 1)]) (return 1)]", api.FExn, 0, []int{2, 1, 0}, 7},
		{"[(load 0 #7) (new 0) (close 1 0 1 [0 2] [0]) (apply 3 1 0) (end 0) (return 3)] [(try [] [(3 4 3)]) (new 1) (raise 3 0) (cell 3 0 [4]) (field 3 3 0) (return 3)]", api.FNone, 7, []int{1, 0}, 0},
	} {
		image := raising(c.codes)
		if _, ok := judgeImage(image); !ok {
			t.Errorf("not well-formed: %s", c.codes)
			continue
		}
		run := held(t, image, nil, 5).out
		if run.Result.Fault != c.fault || run.Result.Answer != c.answer || run.Result.Payload != c.payload || !slices.Equal(ends(run), c.ends) {
			t.Errorf("%s: %+v", c.codes, run)
		}
		for fuel := range 4 {
			held(t, image, nil, fuel)
		}
	}
}

// TestNamesOfExns: the text of the exception by which a run ends.
func TestNamesOfExns(t *testing.T) {
	for exn, want := range map[string]string{"0": "Div", "1": "Index", "2": "Size", "3": "no", "16383": "last", "77": ""} {
		image := samples.Bytes("HRI [('main 0 1 0 [] [[(load 0 #5) (jump 5) (raise 3 0) (raise 16383 0) (raise 77 0) (raise " + exn + " 0)]])] [(3 'no) (77 ') (16383 'last)] 0")
		j, ok := judgeImage(image)
		if !ok {
			t.Fatalf("not well-formed")
		}
		r := judge(j, nil, 0)
		if run := ran(t, image, nil, 0); !isSame(run, r.out) || run.Result.Exn != want || run.Result.Payload != 5 {
			t.Errorf("%s: %+v", exn, run)
		}
	}
}
