package place_test

import (
	"reflect"
	"slices"
	"strconv"
	"strings"
	"testing"

	"heriot/api"
	"heriot/flat"
	"heriot/place"
	"heriot/plain"
	"heriot/samples"
	"heriot/steps"
)

func isSameResult(a, b api.Result) bool {
	if !slices.Equal(a.Outs, b.Outs) {
		return false
	}
	a.Outs, b.Outs = nil, nil
	return reflect.DeepEqual(a, b)
}

// TestDocExamples are the document's, with their peaks.
func TestDocExamples(t *testing.T) {
	const list = "(unit l (data list (a) (Nil) (Cons a (list a))) (fun upto (n) (if (< n 1) (Nil) (Cons n (upto (- n 1))))) (fun sum (l) (case l ((Nil) 0) ((Cons x r) (+ x (sum r))))))"
	for _, c := range []struct {
		texts  []string
		args   []int64
		fuel   int
		want   api.Result
		peak   int
		events int // -1 where the document does not say
	}{
		{[]string{"(unit m (fun main (n) (get 0 (tuple (+ n 1) n))))"}, []int64{4}, 9, api.Result{Answer: 5}, 2, 4},
		{[]string{list, "(unit m (use l) (fun main (n) (sum (upto n))))"}, []int64{3}, 100, api.Result{Answer: 6, Ticks: 8}, 9, -1},
		{[]string{"(unit m (exception no) (fun main (n) (handle (raise no (+ n 1)) (no v (* v 2)))))"}, []int64{20}, 9, api.Result{Answer: 42}, 0, 0},
		{[]string{"(unit m (fun main () (/ 1 0)))"}, nil, 9, api.Result{Fault: api.FExn, Exn: "Div"}, 0, 0},
		{[]string{"(unit m (fun id (x) x) (fun main () (id (id 7))))"}, nil, 9, api.Result{Answer: 7, Ticks: 2}, 0, 0},
		{[]string{"(unit m (fun id (x) x) (fun main () (id (id 7))))"}, nil, 1, api.Result{Fault: api.FFuel, Ticks: 1}, 0, 0},
		{[]string{"(unit m (fun twice (f) (fn x (call f (call f x)))) (fun main (n) (call (twice (fn x (+ x n))) 1)))"}, []int64{20}, 9, api.Result{Answer: 41, Ticks: 4}, 4, -1},
		{[]string{"(unit m (fun main (n) (let r (ref n) (seq (set r (* (deref r) 2)) (deref r)))))"}, []int64{21}, 9, api.Result{Answer: 42}, 1, -1},
		{[]string{"(unit m (fun fill (a i) (if (< i (len a)) (seq (put a i i) (fill a (+ i 1))) a)) (fun main (n) (at (fill (array n 0) 0) 3)))"}, []int64{5}, 99, api.Result{Answer: 3, Ticks: 11}, 6, -1},
		{[]string{"(unit m (fun fill (a i) (if (< i (len a)) (seq (put a i i) (fill a (+ i 1))) a)) (fun main (n) (at (fill (array n 0) 0) 3)))"}, []int64{3}, 99,
			api.Result{Fault: api.FExn, Exn: "Index", Payload: 3, Ticks: 7}, 4, -1},
	} {
		run := steps.Run(placed(t, flatOf(t, c.texts...)), c.args, c.fuel)
		isLeft := run.Result.Fault != api.FFuel && run.Left != 0
		if !isSameResult(run.Result, c.want) || run.Peak != c.peak || isLeft || c.events >= 0 && len(run.Events) != c.events {
			t.Errorf("%v with %v: %+v", c.texts, c.args, run)
		}
	}
}

// TestSameMeaning: P2 and P3, for what Place makes.
func TestSameMeaning(t *testing.T) {
	t.Parallel()
	faults := map[int]int{}
	for seed := range 6 * rounds {
		m := sample(t, seed)
		q := placed(t, m.Program)
		got, want := steps.Run(q, m.args, m.fuel), flat.Run(m.Program, m.args, m.fuel)
		if !isSameResult(got.Result, want) || want.Fault == api.FStuck || want.Fault != api.FFuel && got.Left != 0 {
			t.Fatalf("%d: %+v, left %d, not %+v: %s", seed, got.Result, got.Left, want, write(q))
		}
		faults[want.Fault]++
	}
	for seed := range rounds / 2 {
		p, ok := byTexts(t, seed)
		if !ok {
			continue
		}
		m := sample(t, seed)
		got, want := steps.Run(placed(t, p), m.args, m.fuel), plain.Run(unitsOf(t, samples.Texts(seed)...), m.args, m.fuel)
		if !isSameResult(got.Result, want) {
			t.Fatalf("%d: %+v, not %+v: %s", seed, got.Result, want, write(p))
		}
	}
	if faults[api.FNone] < rounds || faults[api.FExn] < rounds/4 || faults[api.FFuel] < rounds {
		t.Errorf("too few cases: %v", faults)
	}
}

// TestKept: P10: at each event at which a cell is made or touched, each open instance has one owner, and Why gives a way from ahead of that frame's step to a touch.
func TestKept(t *testing.T) {
	t.Parallel()
	looked := 0
	for seed := range rounds {
		m := sample(t, seed)
		if m.isLong() {
			continue
		}
		q := placed(t, m.Program)
		run := steps.Run(q, m.args, m.fuel)
		known := map[string]bool{}
		open := map[int]bool{}
		for k, e := range run.Events {
			switch e.Kind {
			case api.VNew:
				open[e.Region] = true
				continue
			case api.VEnd:
				delete(open, e.Region)
				continue
			}
			if k > 200 {
				break
			}
			frames, errno := steps.Frames(q, m.args, m.fuel, k+1)
			owners := map[int]int{}
			for _, f := range frames {
				for i, r := range f.Regions {
					owners[f.Instances[i]]++
					m.kept(t, q, f, r, known)
					looked++
				}
			}
			for i := range open {
				if owners[i] != 1 || len(owners) != len(open) || errno != api.OK {
					t.Fatalf("%d, event %d: instance %d has %d owners: %v: %s", seed, k, i, owners[i], frames, write(q))
				}
			}
		}
	}
	if looked < 5*rounds {
		t.Errorf("too few cases: %d", looked)
	}
}

// kept looks at whether Why gives a way from ahead of a frame's step to a touch of a region.
func (m made) kept(t *testing.T, q api.Program, f api.Frame, r int, known map[string]bool) {
	t.Helper()
	path := slices.Clone(f.Path)
	last := len(path) - 1
	// The place ahead of a step is that behind the last step ahead that ends nothing, or the block's begin.
	for path[last]--; path[last] >= 0 && stepAt(&q, api.Spot{Fun: f.Fun, Path: path}).Op == api.OEnd; path[last]-- {
	}
	if path[last] < 0 {
		path = path[:last]
	}
	key := strconv.Itoa(f.Fun) + " " + strconv.Itoa(r) + " " + keyOf(path)
	if known[key] {
		return
	}
	known[key] = true
	way, ok := place.Why(q, api.Spot{Fun: f.Fun, Path: path}, r)
	if !ok || len(way) == 0 {
		t.Fatalf("%d: no way to region %d from %v, ahead of %v: %s", m.seed, r, path, f, write(q))
	}
}

// loops are units with make and read, and how main calls them alone and in a loop.
const (
	alone = "(unit m (use u) (fun main (a b) (read (make a b))))"
	round = `(unit m (use u) (fun loop (n i s) (if (< n 1) (read s) (let j (read s) (loop (- n 1) j (make n j))))) (fun main (n i) (loop n i (make n i))))`
)

// TestLoops: P8: a loop holds what the worst of its rounds holds alone.
func TestLoops(t *testing.T) {
	t.Parallel()
	const list = "(data list (a) (Nil) (Cons a (list a)))"
	for _, unit := range []string{
		"(fun make (n i) (tuple n i)) (fun read ((s (* int int))) int (+ (get 0 s) (get 1 s)))",
		list + "(fun make (n i) (if (< n 1) (Nil) (Cons i (make (- n 1) (+ i 1))))) (fun read (l) (case l ((Nil) 1) ((Cons x r) (- (read r) x))))",
		list + "(fun first ((p (* int int))) int (get 0 p)) (fun make (n i) (if (< (* n 2) (% i 5)) (Nil) (Cons (tuple n i) (make (- n 1) (+ i 2))))) (fun read (l) (case l ((Nil) 1) ((Cons x r) (+ (first x) (read r)))))",
		"(data tree () (Leaf) (Node (tree) int (tree))) (fun make (n i) (if (< n 1) (Leaf) (Node (make (- n 1) i) i (make (- n 2) (+ i 1))))) (fun read (t) (case t ((Leaf) 0) ((Node l x r) (+ x (- (read l) (read r))))))",
		"(fun make (n i) (ref (ref (+ n i)))) (fun read (s) (seq (set (deref s) (* 3 (deref (deref s)))) (% (deref (deref s)) 7)))",
		"(fun make (n i) (array (+ 1 (% (* n n) 9)) i)) (fun read (a) (seq (put a 0 (len a)) (+ (at a 0) (at a (- (len a) 1)))))",
		"(fun make (n i) 5) (fun read (s) (let t (tuple s s) (get 0 t)))",
		"(exception no) " + list + "(fun make (n i) (Cons (ref n) (Cons (ref i) (Nil)))) (fun read (l) (handle (case l ((Nil) 0) ((Cons x r) (if (< (deref x) 3) (raise no (deref x)) (read r)))) (no v (+ v 1))))",
	} {
		text := "(unit u " + unit + ")"
		one, many := placed(t, flatOf(t, text, alone)), placed(t, flatOf(t, text, round))
		checkMake(t, &one)
		for n := range int64(7) {
			for i := int64(-1); i < 4; i++ {
				peak, j := 0, i
				for k := n + 1; k >= 1; k-- {
					first := min(k, n) // make is called with n and i, and then with what the loop counts down and what was read
					run := steps.Run(one, []int64{first, j}, api.MaxFuel)
					if run.Result.Fault != api.FNone {
						t.Fatalf("%s with %d %d: %+v", unit, first, j, run.Result)
					}
					peak, j = max(peak, run.Peak), run.Result.Answer
				}
				run := steps.Run(many, []int64{n, i}, api.MaxFuel)
				if run.Result.Fault != api.FNone || run.Peak != peak || run.Result.Answer != j {
					t.Errorf("%s with %d %d: %+v, peak %d, not %d and %d: %s", unit, n, i, run.Result, run.Peak, j, peak, write(many))
				}
			}
		}
	}
}

// checkMake looks at whether the signatures of make and read are as the promise asks.
func checkMake(t *testing.T, p *api.Program) {
	t.Helper()
	for _, f := range p.Funs {
		regions := regionsIn(f.Result)
		slices.Sort(regions)
		hasTwice := len(slices.Compact(slices.Clone(regions))) < len(regions)
		names := slices.ContainsFunc(effectsIn(f.Result), func(e api.Effect) bool { return len(e.Regions) > 0 })
		if f.Name == "make" && (hasTwice || names) || f.Name == "read" && f.Regions > len(regionsIn(f.Params...)) {
			t.Fatalf("%s: %s", f.Name, strings.TrimSpace(write(*p)))
		}
	}
}
