package machine_test

import (
	"strconv"
	"strings"
	"testing"

	"heriot/api"
	"heriot/machine"
	"heriot/samples"
	"heriot/steps"
)

// TestDepth has the chapter's examples, and others by texts.
func TestDepth(t *testing.T) {
	t.Parallel()
	const loop = "(fun loop (n a) (if (< n 1) a (loop (- n 1) (+ a n))))"
	const sum = "(fun sum (n) (if (< n 1) 0 (+ n (sum (- n 1)))))"
	const list = "(data list (a) (Nil) (Cons a (list a))) (fun upto (n l) (if (< n 1) l (upto (- n 1) (Cons n l)))) (fun all (l a) (case l ((Nil) a) ((Cons x r) (all r (+ a x)))))"
	for _, n := range []int{0, 1, 2, 3, 10, 1000} {
		for _, c := range []struct {
			text string
			want int
		}{
			{loop + "(fun main (n) (loop n 0))", 1},
			{loop + "(fun main (n) (+ 0 (loop n 0)))", 2},
			{loop + "(fun main (n) (let x (loop n 0) x))", 1},
			{loop + "(fun main (n) (seq unit (loop n 0)))", 1},
			{loop + "(fun main (n) (if (= (loop n 0) 1) (loop n 0) (loop n 1)))", 2},
			{sum + "(fun main (n) (sum n))", n + 1},
			{sum + "(fun main (n) (+ 1 (sum n)))", n + 2},
			{"(funs (even (n) (if (< n 1) 1 (odd (- n 1)))) (odd (n) (if (< n 1) 0 (even (- n 1))))) (fun main (n) (even n))", 1},
			{"(funs (even (n) (if (< n 1) 1 (odd (- n 1)))) (odd (n) (if (< n 1) 0 (+ 0 (even (- n 1)))))) (fun main (n) (even n))", 1 + n/2},
			{list + "(fun main (n) (all (upto n (Nil)) 0))", 2}, // main waits for the list; then its region is handed on
			{"(fun go ((n int) (t (* int int))) int (if (< n 1) (get 0 t) (go (- n 1) (tuple n 1)))) (fun main (n) (go n (tuple 7 1)))", 1},
			{"(fun go ((n int) (t (* int int))) int (if (< n 1) (get 0 t) (go (- n 1) (tuple (get 0 t) 1)))) (fun main (n) (go n (tuple 7 1)))", 1},
			{"(fun go (f n) (if (< n 1) (call f n) (go f (- n 1)))) (fun main (n) (go (fn x (call (fn y (+ x y)) 1)) n))", 3}, // the regions of closures that are called end behind the calls,
			{"(exception no) (fun go (n) (if (< n 1) (raise no 5) (handle (go (- n 1)) (Div x x)))) (fun main (n) (handle (go n) (no v v)))", n + 2},
			{"(exception no) (fun go (n) (if (< n 1) (raise no 5) (handle n (no x (go (- n 1)))))) (fun main (n) (handle (go n) (no v v)))", 2},
			{"(exception no) (fun go (n) (if (< n 1) 5 (handle (raise no n) (no x (go (- n 1)))))) (fun main (n) (go n))", 1},
		} {
			p := placedOf(t, "(unit m "+c.text+")")
			image, args := imageOf(t, p), []int64{int64(n)}
			if got := depthOf(t, image, args, plenty); got != c.want {
				t.Errorf("%s with %d: depth %d, not %d", c.text, n, got, c.want)
			}
			if got, want := ran(t, image, args, plenty), steps.Run(p, args, plenty); !isSame(got, want) {
				t.Errorf("%s with %d: %+v, not %+v", c.text, n, got, want)
			}
			if n <= 10 {
				held(t, image, args, 100)
			}
		}
	}
}

// TestHandedOn: which calls are last ones, by what comes behind them.
func TestHandedOn(t *testing.T) {
	t.Parallel()
	for _, c := range []struct {
		behind string
		want   int // the depth: 1 if the call is a last one
	}{
		{"(return 1)", 1},
		{"(move 2 1) (return 2)", 1},
		{"(move 1 1) (return 1)", 1},
		{"(move 0 1) (move 2 0) (move 1 2) (return 1)", 1},
		{"(jump 4) (return 0) (return 1)", 1},
		{"(jump 4) (return 0) (move 2 1) (jump 7) (return 0) (return 2)", 1},
		{"(return 0)", 2},
		{"(move 2 1) (return 1)", 2}, // it would be the same, but it is not handed on
		{"(move 2 0) (return 1)", 2},
		{"(move 2 1) (move 2 2) (return 2)", 1},
		{"(move 2 1) (move 0 1) (return 2)", 2},
		{"(load 2 #1) (return 1)", 2},
		{"(add 1 1 0) (return 1)", 2},
		{"(jump 4) (return 1) (return 0)", 2},
		{"(jump 4) (return 1) (print 0) (return 1)", 2},
		{"(print 1) (return 1)", 2},
		{"(new 0) (return 1)", 2},
		{"(raise 0 1)", 2},
		{"(branch 1 4) (jump 4) (return 1)", 2},
		{"(try [] []) (return 1)", 2},
	} {
		for _, call := range []string{"(call 1 1 [] [])", "(apply 1 3 0)"} {
			want := c.want
			image := samples.Bytes("HRI [('main 0 4 2 [] [[(load 0 #3) " + call + " " + c.behind + "] [(load 0 #3) (return 0)]]) ('five 0 1 0 [] [[(load 0 #5) (return 0)]])] [] 0")
			if call[1] == 'a' {
				// The closure is made in a region that main does not own: it is one of a function around.
				image = samples.Bytes("HRI [('loop 1 4 2 [0] [[(close 3 0 1 [2] []) (apply 1 3 0) " + c.behind + "] [(load 0 #5) (return 0)]]) ('main 0 2 1 [] [[(load 0 #3) (new 0) (call 1 0 [0] [(0 0)]) (end 0) (return 1)]])] [] 1")
				want++
			}
			if r := held(t, image, nil, 5); r.depth != want {
				t.Errorf("%s %s: depth %d, not %d", call, c.behind, r.depth, want)
			}
		}
	}
}

// TestWaiting: when a frame that waits at a last call is needed all the same.
func TestWaiting(t *testing.T) {
	t.Parallel()
	for _, c := range []struct {
		functions string
		want      int
	}{
		// A region of its own, of which it has the handle; one that has ended; one that it has handed over.
		{"('main 0 1 2 [] [[(new 1) (call 0 1 [] []) (return 0)]]) ('five 0 1 0 [] [[(load 0 #5) (return 0)]])", 2},
		{"('main 0 1 2 [] [[(new 1) (end 1) (call 0 1 [] []) (return 0)]]) ('five 0 1 0 [] [[(load 0 #5) (return 0)]])", 1},
		{"('main 0 1 2 [] [[(new 1) (call 0 1 [] [(1 1)]) (return 0)]]) ('five 0 1 1 [0] [[(end 0) (load 0 #5) (return 0)]])", 1},
		{"('main 0 1 2 [] [[(new 1) (call 0 1 [] [(1 0)]) (return 0)]]) ('five 0 1 1 [0] [[(end 0) (load 0 #5) (return 0)]])", 2},
		{"('main 0 1 2 [] [[(new 1) (new 1) (call 0 1 [] [(1 1)]) (return 0)]]) ('five 0 1 1 [0] [[(end 0) (load 0 #5) (return 0)]])", 1}, // the first handle is gone
		// A handle that does not own.
		{"('main 0 1 2 [] [[(new 1) (call 0 1 [] [(1 0)]) (end 1) (return 0)]]) ('mid 0 1 1 [0] [[(call 0 2 [] []) (return 0)]]) ('five 0 1 0 [] [[(load 0 #5) (return 0)]])", 2},
		// A try that is open, and one that is closed.
		{"('main 0 1 0 [] [[(try [] []) (call 0 1 [] []) (return 0)]]) ('five 0 1 0 [] [[(load 0 #5) (return 0)]])", 2},
		{"('main 0 1 0 [] [[(try [] []) (untry) (call 0 1 [] []) (return 0)]]) ('five 0 1 0 [] [[(load 0 #5) (return 0)]])", 1},
		{"('main 0 1 0 [] [[(try [] []) (try [] []) (untry) (call 0 1 [] []) (return 0)]]) ('five 0 1 0 [] [[(load 0 #5) (return 0)]])", 2},
		// What two frames own at once: 1 owns it twice, and hands one handle to 2, which ends it and calls 3. From then on 1 is not needed.
		{"('main 0 1 1 [] [[(new 0) (call 0 1 [] [(0 1) (0 1)]) (return 0)]]) ('twice 0 1 2 [0 1] [[(call 0 2 [] [(1 1)]) (return 0)]]) ('ends 0 1 1 [0] [[(end 0) (call 0 3 [] []) (return 0)]]) ('five 0 1 0 [] [[(load 0 #5) (return 0)]])", 2},
		{"('main 0 1 1 [] [[(new 0) (call 0 1 [] [(0 1) (0 1)]) (return 0)]]) ('twice 0 1 2 [0 1] [[(call 0 2 [] [(1 1)]) (return 0)]]) ('ends 0 1 1 [0] [[(call 0 3 [] []) (return 0)]]) ('five 0 1 0 [] [[(load 0 #5) (return 0)]])", 3},
		{"('main 0 1 1 [] [[(new 0) (call 0 1 [] [(0 1) (0 1)]) (return 0)]]) ('twice 0 1 2 [0 1] [[(call 0 2 [] [(1 1)]) (return 0)]]) ('ends 0 1 1 [0] [[(end 0) (call 0 3 [] []) (load 0 #6) (return 0)]]) ('more 0 1 0 [] [[(call 0 4 [] []) (load 0 #4) (return 0)]]) ('five 0 1 0 [] [[(load 0 #5) (return 0)]])", 3},
		{"('main 0 2 1 [] [[(load 1 #3) (new 0) (try [] [(0 1 5)]) (call 0 1 [1] [(0 1) (0 1)]) (return 0) (call 0 3 [1] []) (return 0)]]) ('twice 1 1 2 [0 1] [[(call 0 2 [0] [(1 1)]) (return 0)]]) ('raises 1 1 1 [0] [[(raise 0 0)]]) ('five 1 2 0 [] [[(call 1 4 [0] []) (return 1)]]) ('six 1 1 0 [] [[(return 0)]])", 3},
		// Another instance ends behind that one, ahead of the call.
		{"('main 0 1 1 [] [[(new 0) (call 0 1 [] [(0 1) (0 1)]) (return 0)]]) ('twice 0 1 2 [0 1] [[(call 0 2 [] [(1 1)]) (return 0)]]) ('ends 0 1 1 [0] [[(end 0) (new 0) (end 0) (call 0 3 [] []) (return 0)]]) ('five 0 1 0 [] [[(load 0 #5) (return 0)]])", 2},
		// 1 hands one handle on, and the exception that 2 handles itself ends the instance: then 1 is not needed at the call of 3.
		{"('main 0 2 1 [] [[(load 1 #3) (new 0) (call 0 1 [1] [(0 1) (0 1)]) (return 0)]]) ('twice 1 1 2 [0 1] [[(call 0 2 [0] [(1 1)]) (return 0)]]) ('handles 1 1 1 [0] [[(try [] [(0 0 2)]) (raise 0 0) (call 0 3 [0] []) (return 0)]]) ('five 1 1 0 [] [[(return 0)]])", 2},
		{"('main 0 2 1 [] [[(load 1 #3) (new 0) (call 0 1 [1] [(0 1) (0 1)]) (return 0)]]) ('twice 1 1 2 [0 1] [[(call 0 2 [0] [(1 1)]) (return 0)]]) ('handles 1 1 1 [0] [[(try [0] [(0 0 2)]) (raise 0 0) (call 0 3 [0] []) (return 0)]]) ('five 1 1 0 [] [[(return 0)]])", 3},
		// Deeper: many frames own it, as each hands one of two handles on; when it ends, none of them is needed.
		{"('main 0 2 1 [] [[(load 1 #9) (new 0) (call 0 1 [1] [(0 1) (0 1)]) (return 0)]]) ('twice 1 3 2 [0 1] [[(load 1 #1) (less 2 0 1) (branch 2 6) (end 0) (call 2 2 [0] [(1 1)]) (return 2) (sub 0 0 1) (call 2 1 [0] [(1 1) (1 1)]) (return 2)]]) ('sum 1 2 1 [0] [[(call 1 3 [0] []) (return 1)]]) ('five 1 1 0 [] [[(return 0)]])", 10},
	} {
		image := samples.Bytes("HRI [" + c.functions + "] [] 0")
		if _, ok := judgeImage(image); !ok {
			t.Errorf("not well-formed: %s", c.functions)
			continue
		}
		for fuel := range 15 {
			held(t, image, nil, fuel)
		}
		if got := depthOf(t, image, nil, 100); got != c.want {
			t.Errorf("%s: depth %d, not %d", c.functions, got, c.want)
		}
	}
}

// TestLoops: P8: a loop holds what the worst of its rounds holds alone, and its depth is at most one more than the greatest of theirs. What make is called with is printed by it.
func TestLoops(t *testing.T) {
	t.Parallel()
	const alone = "(unit m (use u) (fun main (a b) (read (make a b))))"
	const round = "(unit m (use u) (fun loop (n i s) (if (< n 1) (read s) (let j (read s) (loop (- n 1) j (make n j))))) (fun main (n i) (loop n i (make n i))))"
	const list = "(data list (a) (Nil) (Cons a (list a)))"
	const seen = "(fun seen (n i) (seq (print n) (print i)))"
	for _, unit := range []string{
		"(fun make (n i) (seq (seen n i) (tuple n i))) (fun read ((s (* int int))) int (+ (get 0 s) (get 1 s)))",
		list + "(fun list (n i) (if (< n 1) (Nil) (Cons i (list (- n 1) (+ i 1))))) (fun make (n i) (seq (seen n i) (list n i))) (fun read (l) (case l ((Nil) 1) ((Cons x r) (- (read r) x))))",
		list + "(fun list (n i) (if (< n 1) (Nil) (Cons i (list (- n 1) (+ i 1))))) (fun make (n i) (seq (seen n i) (list (% (* n 5) 7) i))) (fun sum (l a) (case l ((Nil) a) ((Cons x r) (sum r (+ a x))))) (fun read (l) (% (sum l 0) 50))",
		"(data tree () (Leaf) (Node (tree) int (tree))) (fun tree (n i) (if (< n 1) (Leaf) (Node (tree (- n 1) i) i (tree (- n 2) (+ i 1))))) (fun make (n i) (seq (seen n i) (tree n i))) (fun read (t) (case t ((Leaf) 0) ((Node l x r) (+ x (- (read l) (read r))))))",
		"(fun make (n i) (seq (seen n i) (ref (ref (+ n i))))) (fun read (s) (seq (set (deref s) (* 3 (deref (deref s)))) (% (deref (deref s)) 7)))",
		"(fun make (n i) (seq (seen n i) (array (+ 1 (% (* n n) 9)) i))) (fun read (a) (seq (put a 0 (len a)) (+ (at a 0) (at a (- (len a) 1)))))",
		"(fun make (n i) (seq (seen n i) 5)) (fun read (s) (let t (tuple s s) (get 0 t)))",
	} {
		text := "(unit u " + seen + unit + ")"
		one, many := imageOf(t, placedOf(t, text, alone)), imageOf(t, placedOf(t, text, round))
		for n := range int64(7) {
			args := []int64{n, n%3 - 1}
			run, depth := ran(t, many, args, plenty), depthOf(t, many, args, plenty)
			peak, deepest := 0, 0
			for i := 0; i+1 < len(run.Result.Outs); i += 2 {
				own := run.Result.Outs[i : i+2]
				peak = max(peak, ran(t, one, own, plenty).Peak)
				deepest = max(deepest, depthOf(t, one, own, plenty))
			}
			if run.Result.Fault != api.FNone || len(run.Result.Outs) != 2*int(n+1) || run.Peak != peak || depth > deepest+1 {
				t.Errorf("%s with %v: %+v, depth %d, not the peak %d or the depth %d", unit, args, run, depth, peak, deepest)
			}
		}
	}
}

// TestDeep: runs whose frames are as many as there is fuel.
func TestDeep(t *testing.T) {
	t.Parallel()
	image := imageOf(t, placedOf(t, "(unit m (fun sum (n) (if (< n 1) 0 (+ n (sum (- n 1))))) (fun main (n) (+ 0 (sum n))))"))
	for _, n := range []int64{8190, 8191, 8192, 9000} {
		run, depth := ran(t, image, []int64{n}, plenty), depthOf(t, image, []int64{n}, plenty)
		if n < 8192 && (run.Result.Answer != n*(n+1)/2 || depth != int(n)+2) || n >= 8192 && (run.Result.Fault != api.FFuel || depth != 8193) {
			t.Errorf("%d: %+v, depth %d", n, run.Result, depth)
		}
	}
	// Frames with many registers, which wait, and a loop of such frames, which do not.
	for behind, want := range map[string]int{"(add 1 1 2) (return 1)": 8193, "(return 1)": 2} {
		image := samples.Bytes("HRI [('wide 1 16384 16384 [] [[(load 16383 #7) (load 2 #1) (add 0 0 2) (call 1 0 [0] []) " + behind + "]]) ('main 1 1 0 [] [[(call 0 0 [0] []) (add 0 0 0) (return 0)]])] [] 1")
		depth, e := machine.Depth(image, []int64{0}, plenty)
		if run := ran(t, image, []int64{0}, plenty); run.Result.Fault != api.FFuel || depth != want || e != api.OK {
			t.Errorf("%s: %+v, depth %d", behind, run.Result, depth)
		}
	}
}

// TestLongChains: a result that is handed on by as many instructions as a code may have.
func TestLongChains(t *testing.T) {
	t.Parallel()
	moves := strings.Repeat("(move 1 1)", 16*api.MaxNodes-3)
	for last, want := range map[string]int{"(return 1)": 1, "(return 0)": 2} {
		image := samples.Bytes("HRI [('main 1 2 0 [] [[(call 1 1 [0] []) " + moves + "(move 1 1) " + last + "]]) ('same 1 1 0 [] [[(return 0)]])] [] 0")
		run := ran(t, image, []int64{5}, plenty)
		if depth := depthOf(t, image, []int64{5}, plenty); run.Result.Answer != 5 || depth != want {
			t.Errorf("%s: %s, depth %d", last, strconv.Itoa(int(run.Result.Answer)), depth)
		}
	}
}
