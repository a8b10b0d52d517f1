package bounds_test

import (
	"fmt"
	"slices"
	"testing"

	"heriot/api"
	"heriot/bounds"
	"heriot/steps"
)

// boundIs looks at what Bound says.
func boundIs(t *testing.T, p api.Program, certs []api.Cert, args []int64, want int64, wantE api.Errno) {
	t.Helper()
	if got, e := bounds.Bound(p, certs, args); got != want || e != wantE {
		t.Errorf("Bound with %v: %d %d, not %d %d", args, got, e, want, wantE)
	}
}

// peakIs looks at the least Peak of main that is taken, with certificates of other functions.
func peakIs(t *testing.T, p api.Program, others, want string) {
	t.Helper()
	isJust(t, p, want, func(text string) []api.Cert { return certsOf(p, "main; peak "+text+"\n"+others) })
}

// TestExamples: those of the chapter.
func TestExamples(t *testing.T) {
	one := program(t, "fun main () int [0 int := int #1; value 0];")
	verifiedIs(t, one, []api.Cert{{Fun: 0}}, api.OK)
	boundIs(t, one, []api.Cert{{Fun: 0}}, nil, 0, api.OK)

	pair := program(t, "fun main (int) int [new @0; 1 (* int int) := tuple 0 0 @0; 2 int := get #0 1; end @0; value 2];")
	peakIs(t, pair, "", "2")
	verifiedIs(t, pair, nil, api.ErrCert)
	boundIs(t, pair, nil, []int64{1}, 0, api.ErrCert)
	boundIs(t, pair, certsOf(pair, "main; peak 1"), []int64{1}, 0, api.ErrBound)
	boundIs(t, pair, certsOf(pair, "main; peak 2"), []int64{1}, 2, api.OK)
	boundIs(t, pair, certsOf(pair, "main; peak 2"), []int64{1, 2}, 0, api.ErrCert)

	const closure = "new @0; 1 (-> int (* int int) {0}) := fn @0 [bind 2; 3 (* int int) := tuple 2 2 @0; value 3]; "
	apply := program(t, "fun main (int) int ["+closure+"4 (* int int) := apply 1 0; 5 int := get #0 4; end @0; value 5];")
	peakIs(t, apply, "", "4")
	hidden := program(t, "fun main (int) int ["+closure+"6 (ref (-> int (* int int) {0})) := ref 1 @0; 7 (-> int (* int int) {0}) := deref 6; 4 (* int int) := apply 7 0; 5 int := get #0 4; end @0; value 5];")
	verifiedIs(t, hidden, certsOf(hidden, "main; peak 1000 1000*0 1000*0.0"), api.ErrBound)
}

// counting is a unit whose function builds a list.
const counting = "(unit l (data list (a) (Nil) (Cons a (list a))) (fun build (n) (if (< 0 n) (Cons n (build (- n 1))) (Nil))) (fun main (n) (case (build n) ((Nil) 0) ((Cons x r) x))))"

// TestBuild: the chapter's worked example.
func TestBuild(t *testing.T) {
	p, ok := placed(t, counting)
	if !ok {
		t.Fatal("no program")
	}
	for _, c := range []struct {
		peak, growth, size string
		want               api.Errno
	}{
		{"3*0", "3*0", "3*0", api.OK},
		{"4*0 7", "4*0 7", "3*0", api.OK},
		{"3*0 1", "4*0 7", "3*0", api.ErrBound},
		{"3*0", "3*0", "2*0 1000", api.ErrBound},
		{"2*0 1000", "3*0", "3*0", api.ErrBound},
		{"3*0", "2*0 1000", "3*0", api.ErrBound},
		{"1*0.0 1000", "3*0", "3*0", api.ErrBound},
		{"3*0.0 6*0 3", "3*0 3", "3*0 3", api.OK},
	} {
		certs := certsOf(p, "build; peak "+c.peak+"; growth "+c.growth+"; size "+c.size+"\nmain; peak 1000 1000*0 1000*0.0")
		verifiedIs(t, p, certs, c.want)
	}
	verifiedIs(t, p, certsOf(p, "build; peak 3*0; growth 3*0\nmain; peak 3*0"), api.OK)

	equal, ok := placed(t, "(unit l (data list (a) (Nil) (Cons a (list a))) (fun build (n) (if (= n 0) (Nil) (Cons n (build (- n 1))))) (fun main (n) (case (build n) ((Nil) 0) ((Cons x r) x))))")
	if !ok {
		t.Fatal("no program")
	}
	for _, much := range []string{"3*0", "3*0 3", plenty(1, 1<<40), "1000 1000*0 1000*0.0 1000*0.0.0"} {
		verifiedIs(t, equal, certsOf(equal, "build; peak "+much+"; growth "+much+"\nmain; peak "+much), api.ErrBound)
	}
	if certs, e := bounds.Find(equal); e != api.ErrFinite || certs != nil {
		t.Errorf("Find: %v %d", certs, e)
	}
}

// mapping is map as a region program: the closure lies in region 0, the list in 1, and what is made in 2. In its certificates 0 is the closure, 1 the list, 2 the closure's cost.
const mapping = `fun map 2 3 1 {0 1 2 e0} ((-> v0 v1 @0 {e0}) (d0 v0 @1)) (d0 v1 @2) [9 (d0 v1 @2) := case 1
 [3 (d0 v1 @2) := make .0; end @0; end @1; end @2; value 3]
 [bind 4 5; 6 v1 := apply 0 4; 7 (d0 v1 @2) := call .0 (v0 v1) @0 @1 @2 {e0} keep keep keep 0 5; 8 (d0 v1 @2) := make .1 6 7 @2; end @0; end @1; end @2; value 8]; value 9]; `

// TestMap: the chapter's other worked example.
func TestMap(t *testing.T) {
	p := program(t, mapping+someMain)
	const main = "\nmain; peak"
	verifiedIs(t, p, certsOf(p, "map; peak 3*1 1*1.2; growth; growth; growth 3*1; behind 1*1.2; size 1*1"+main), api.OK)
	verifiedIs(t, p, certsOf(p, "map; peak 3*1 1*1.2; growth; growth; growth 1*1; behind 1*1.2"+main), api.OK)
	for _, less := range []string{
		"map; peak 1*1 1000 1000*2; growth; growth; growth 1*1; behind 1*1.2",
		"map; peak 3*1 1*1.2; growth; growth; growth 1000; behind 1*1.2",
		"map; peak 3*1 1*1.2; growth; growth; growth 3*1; behind 1000*1 1000*2",
		"map; peak 3*1 1000*2; growth; growth; growth 3*1; behind 1*1.2",
	} {
		verifiedIs(t, p, certsOf(p, less+main), api.ErrBound)
	}
}

// findable are programs of the kinds that the chapter says are found.
func findable() []string {
	const lists = "(unit m (data list (a) (Nil) (Cons a (list a))) (fun upto (n) (if (< 0 n) (Cons n (upto (- n 1))) (Nil))) (fun sum (l) (case l ((Nil) 0) ((Cons x r) (+ x (sum r))))) "
	const trees = "(unit m (data tree () (Leaf) (Node (tree) int (tree))) (fun insert (x t) (case t ((Leaf) (Node (Leaf) x (Leaf))) ((Node l y r) (if (< x y) (Node (insert x l) y r) (Node l y (insert x r)))))) (fun grow (n) (if (< n 1) (Leaf) (insert n (grow (- n 1))))) (fun size (t) (case t ((Leaf) 0) ((Node l x r) (+ 1 (+ (size l) (size r)))))) "
	return []string{
		"(unit m (fun main (n) (at (array 17 n) 3)))",
		"(unit m (fun f (n) (tuple n (array 1000 n))) (fun g (n) (tuple (f n) (f (+ n 1)))) (fun main (n) (get 0 (get 1 (g n)))))",
		counting,
		lists + "(fun main (n) (sum (upto n))))",
		lists + "(fun append (a b) (case a ((Nil) b) ((Cons x r) (Cons x (append r b))))) (fun main (n) (sum (append (upto n) (upto 3)))))",
		lists + "(fun reverse (a b) (case a ((Nil) b) ((Cons x r) (reverse r (Cons x b))))) (fun main (n) (sum (reverse (upto n) (Nil)))))",
		lists + "(fun map (f l) (case l ((Nil) (Nil)) ((Cons x r) (Cons (call f x) (map f r))))) (fun main (n) (sum (map (fn x (get 0 (tuple (+ x n) 1))) (upto n)))))",
		lists + "(fun fold (f z l) (case l ((Nil) z) ((Cons x r) (fold f (call (call f z) x) r)))) (fun main (n) (fold (fn a (fn b (+ a b))) 0 (upto n))))",
		"(unit m (fun add (a) (fn b (fn c (+ a (+ b c))))) (fun main (n) (call (call (add n) 1) 2)))",
		"(unit m (fun twice (f) (fn x (call f (call f x)))) (fun main (n) (call (twice (twice (fn x (+ x n)))) 1)))",
		trees + "(fun main (n) (size (grow n))))",
		trees + "(fun mirror (t) (case t ((Leaf) (Leaf)) ((Node l x r) (Node (mirror r) x (mirror l))))) (fun main (n) (size (mirror (grow n)))))",
		"(unit m (fun make (a b) (tuple a b)) (fun read ((s (* int int))) int (get 0 s)) (fun loop (n i s) (if (< n 1) (read s) (let j (read s) (loop (- n 1) j (make n j))))) (fun main (n i) (loop n i (make n i))))",
		lists + "(fun pairs (l) (case l ((Nil) (Nil)) ((Cons x r) (case r ((Nil) (Nil)) ((Cons y q) (Cons (+ x y) (pairs q))))))) (fun main (n) (sum (pairs (upto n)))))",
		// The size of what f gives is not known any more when that is, one round later, of what h gives.
		"(unit m (funs (f (n) (if (< n 1) 0 (let a (f (- n 1)) (let b (len (array a 0)) (h (- n 1)))))) (h (n) (if (< n 1) (* n n) (f (- n 1))))) (fun main (n) (h n)))",
		lists + "(fun ins (x l) (case l ((Nil) (Cons x (Nil))) ((Cons y r) (if (< x y) (Cons x l) (Cons y (ins x r)))))) (fun sort (l) (case l ((Nil) (Nil)) ((Cons x r) (ins x (sort r))))) (fun main (n) (sum (sort (upto n)))))",
		lists + "(fun ins (f x l) (case l ((Nil) (Cons x (Nil))) ((Cons y r) (if (call (call f x) y) (Cons x l) (Cons y (ins f x r)))))) (fun sort (f l) (case l ((Nil) (Nil)) ((Cons x r) (ins f x (sort f r))))) (fun main (n) (sum (sort (fn a (fn b (< a b))) (upto n)))))",
	}
}

// TestFindable: P9.3: these are found; and P6 for them.
func TestFindable(t *testing.T) {
	for _, text := range findable() {
		p, ok := placed(t, text)
		if !ok {
			t.Fatalf("no program: %s", text)
		}
		certs, e := bounds.Find(p)
		if e != api.OK {
			t.Errorf("Find: %d: %s", e, text)
			continue
		}
		verifiedIs(t, p, certs, api.OK)
		for _, n := range []int64{-3, 0, 1, 2, 7, 30} {
			args := slices.Repeat([]int64{n}, len(p.Funs[p.Main].Params))
			run := steps.Run(p, args, api.MaxFuel)
			if most, e := bounds.Bound(p, certs, args); e != api.OK || most < int64(run.Peak) {
				t.Errorf("Bound with %d: %d %d, the peak is %d: %s", n, most, e, run.Peak, text)
			}
		}
	}
}

// TestNotFound: where a certificate can't be found, none is given.
func TestNotFound(t *testing.T) {
	const lists = "(unit m (data list (a) (Nil) (Cons a (list a))) (fun upto (n) (if (< 0 n) (Cons n (upto (- n 1))) (Nil))) "
	// More words than the method finds, and just as many as it does.
	for doublings, want := range map[int]api.Errno{40: api.OK, 41: api.ErrFinite} {
		text := "fun f0 0 1 0 {0} (int) int [1 (ref int) := ref 0 @0; end @0; value 0]; "
		for i := range doublings {
			text += fmt.Sprintf("fun f%d 0 1 0 {0} (int) int [1 int := call .%d @0 keep 0; 2 int := call .%d @0 keep 0; end @0; value 0]; ", i+1, i, i)
		}
		p := program(t, text+fmt.Sprintf("fun main (int) int [new @0; 1 int := call .%d @0 last 0; value 1];", doublings))
		certs, e := bounds.Find(p)
		if e != want {
			t.Errorf("Find of %d doublings: %d", doublings, e)
		}
		if e == api.OK {
			boundIs(t, p, certs, []int64{1}, 1<<40, api.OK)
		}
	}
	for _, text := range []string{
		// One list or the other gets shorter.
		lists + "(fun merge (a b) (case a ((Nil) b) ((Cons x r) (case b ((Nil) a) ((Cons y q) (if (< x y) (Cons x (merge r b)) (Cons y (merge a q)))))))) (fun main (n) (case (merge (upto n) (upto n)) ((Nil) 0) ((Cons x r) x))))",
		// Without an end.
		"(unit m (fun f (n) (get 0 (tuple (f n) n))) (fun main (n) (f n)))",
		"(unit m (fun f (n) (let t (tuple n n) (let m (f (+ n 1)) (get 0 t)))) (fun main (n) (f n)))",
		// Twice as many at each number, and a cube of cubes.
		lists + "(fun double (n) (if (< n 1) (Cons 1 (Nil)) (let a (double (- n 1)) (let b (double (- n 1)) (Cons 1 a))))) (fun main (n) (case (double n) ((Nil) 0) ((Cons x r) x))))",
	} {
		p, ok := placed(t, text)
		if !ok {
			t.Fatalf("no program: %s", text)
		}
		certs, e := bounds.Find(p)
		if e == api.ErrFinite && certs == nil {
			continue
		}
		if e != api.OK || bounds.Verify(p, certs) != api.OK {
			t.Errorf("Find: %d, Verify: %d: %s", e, bounds.Verify(p, certs), text)
		}
	}
}

// TestLateCosts: what f gives has no known cost any more when that is, one round later, of what h gives. Then nothing is found: f applies what it gives.
func TestLateCosts(t *testing.T) {
	const closure = "(-> int int @1)"
	const f = "fun f 0 2 0 {0 1} (int (ref " + closure + " @0)) " + closure + " [2 int := int #1; 3 bool := less 0 2; 18 " + closure + " := if 3 [5 " + closure + " := fn @1 [bind 4; value 4]; end @0; end @1; value 5] [6 int := int #5; 7 bool := less 0 6; 9 int := sub 0 2; 17 " + closure + " := if 7 [10 " + closure + " := call .1 @0 @1 keep keep 9 1; end @0; end @1; value 10] [13 " + closure + " := call .0 @0 @1 keep keep 9 1; 15 int := apply 13 2; end @0; end @1; value 13]; value 17]; value 18]; "
	const h = "fun h 0 2 0 {0 1} (int (ref " + closure + " @0)) " + closure + " [2 int := int #1; 3 bool := less 0 2; 8 " + closure + " := if 3 [4 " + closure + " := deref 1; end @0; end @1; value 4] [6 int := sub 0 2; 7 " + closure + " := call .0 @0 @1 keep keep 6 1; end @0; end @1; value 7]; value 8]; "
	p := program(t, f+h+"fun main (int) int [new @0; new @1; 2 "+closure+" := fn @1 [bind 1; value 1]; 3 (ref "+closure+" @0) := ref 2 @0; 4 "+closure+" := call .1 @0 @1 keep keep 0 3; end @0; end @1; value 0];")
	if certs, e := bounds.Find(p); e != api.ErrFinite || certs != nil {
		t.Errorf("Find: %v %d", certs, e)
	}
}

// TestCostly: P9.6, where the costs of closures are no numbers that a certificate can have: they double from call to call, or grow without end.
func TestCostly(t *testing.T) {
	text := "fun idle 0 0 0 {} (int) int [value 0]; fun twice 1 1 1 {0} ((-> v0 v0 @0 {e0})) (-> v0 v0 @0 {0 e0}) [3 (-> v0 v0 @0 {0 e0}) := fn @0 [bind 4; 5 v0 := apply 0 4; 6 v0 := apply 0 5; value 6]; end @0; value 3]; fun main (int) int [new @0; 1 (-> int int {0}) := fn @0 [bind 2; 3 (ref int) := ref 2 @0; 4 int := deref 3; value 4]; "
	text += "10 (-> int int {0}) := call .1 (int) @0 {0} keep 1; "
	for i := range 60 {
		text += fmt.Sprintf("%d (-> int int {0}) := call .1 (int) @0 {0} keep %d; ", 11+i, 10+i)
	}
	text += "90 int := handle {0} [91 bool := bool #1; 92 int := if 91 [93 int := call .0 0; value 93] [value 0]; value 92] [bind 94; value 94]; end @0; value 0];"
	p := program(t, text)
	certs, e := bounds.Find(p)
	if e != api.OK {
		t.Fatalf("Find: %d", e)
	}
	verifiedIs(t, p, certs, api.OK)
	run := steps.Run(p, []int64{1}, api.MaxFuel)
	boundIs(t, p, certs, []int64{1}, int64(run.Peak), api.OK)

	// A result that is greater than all numbers that the method finds.
	great := program(t, "fun f 0 0 0 {} () int [0 int := int #35184372088832; value 0]; fun main () int [0 int := call .0; 1 int := add 0 0; value 1];")
	certs, e = bounds.Find(great)
	if e != api.OK {
		t.Fatalf("Find: %d", e)
	}
	boundIs(t, great, certs, nil, 0, api.OK)

	// A lambda that calls the function that gives it costs more and more.
	again := program(t, "fun f 0 1 0 {0} (int) (-> int int {0}) [1 (-> int int {0}) := fn @0 [bind 2; 3 (-> int int {0}) := call .0 @0 keep 2; 4 int := apply 3 2; value 4]; end @0; value 1]; fun main (int) int [new @0; 1 (-> int int {0}) := call .0 @0 keep 0; end @0; value 0];")
	certs, e = bounds.Find(again)
	if e != api.OK {
		t.Fatalf("Find: %d", e)
	}
	verifiedIs(t, again, certs, api.OK)
	boundIs(t, again, certs, []int64{1}, 2, api.OK)
}
