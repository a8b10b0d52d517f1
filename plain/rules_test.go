package plain_test

import (
	"math"
	"slices"
	"strconv"
	"strings"
	"testing"

	"heriot/api"
	"heriot/plain"
)

// TestDocument: the examples of chapter 3, and those of DOC.md.
func TestDocument(t *testing.T) {
	for _, x := range []example{
		{"(unit m (fun main (n) (+ n 1)))", []int64{41}, 0, answers(42, 0)},
		{"(unit m (fun f (x) (* x x)) (fun main (n) (seq (print n) (f (f n)))))", []int64{3}, plenty, answers(81, 2, 3)},
		{"(unit m (fun f (x) (* x x)) (fun main (n) (seq (print n) (f (f n)))))", []int64{3}, 1, spends(1, 3)},
		{"(unit m (exception no) (fun main () (handle (/ 1 0) (no x 1))))", nil, plenty, raises("Div", 0, 0)},
		{"(unit m (fun main () (let a (array 3 7) (seq (put a 1 5) (+ (at a 0) (at a 1))))))", nil, 3, answers(12, 3)},
		{"(unit m (fun main () (let a (array 3 7) (seq (put a 1 5) (+ (at a 0) (at a 1))))))", nil, 2, spends(2)},
		{"(unit m (fun main () (handle (at (array 2 0) 2) (Index i (+ i 40)))))", nil, plenty, answers(42, 2)},
		{"(unit m (fun main (n) (let f (fn x (+ x n)) (call f (call f 1)))))", []int64{20}, plenty, answers(41, 2)},
		{"(unit m (fun main (n) (get 0 (tuple (+ n 1) n))))", []int64{4}, plenty, answers(5, 0)},
		{"(unit m (exception no) (fun main (n) (handle (raise no (+ n 1)) (no v (* v 2)))))", []int64{20}, plenty, answers(42, 0)},
		{"(unit m (fun main () (/ 1 0)))", nil, plenty, raises("Div", 0, 0)},
		{"(unit m (fun id (x) x) (fun main () (id (id 7))))", nil, plenty, answers(7, 2)},
		{"(unit m (fun id (x) x) (fun main () (id (id 7))))", nil, 1, spends(1)},
		{"(unit m (fun twice (f) (fn x (call f (call f x)))) (fun main (n) (call (twice (fn x (+ x n))) 1)))", []int64{20}, plenty, answers(41, 4)},
		{"(unit m (fun main (n) (let r (ref n) (seq (set r (* (deref r) 2)) (deref r)))))", []int64{21}, plenty, answers(42, 0)},
		{"(unit m (fun fill (a i) (if (< i (len a)) (seq (put a i i) (fill a (+ i 1))) a)) (fun main (n) (at (fill (array n 0) 0) 3)))", []int64{5}, plenty, answers(3, 11)},
		{"(unit m (fun fill (a i) (if (< i (len a)) (seq (put a i i) (fill a (+ i 1))) a)) (fun main (n) (at (fill (array n 0) 0) 3)))", []int64{3}, plenty, raises("Index", 3, 7)},
	} {
		checkRun(t, x.text, readUnits(t, x.text), x.args, x.fuel, x.want)
	}
	list := "(unit l (data list (a) (Nil) (Cons a (list a))) (fun upto (n) (if (< n 1) (Nil) (Cons n (upto (- n 1))))) (fun sum (l) (case l ((Nil) 0) ((Cons x r) (+ x (sum r))))))"
	main := "(unit m (use l) (fun main (n) (sum (upto n))))"
	checkRun(t, main, readUnits(t, list, main), []int64{3}, plenty, answers(6, 8))
}

func TestInts(t *testing.T) {
	checkBodies(t, []body{
		{"-17", answers(-17, 0)},
		{"(+ 9223372036854775807 1)", answers(math.MinInt64, 0)},
		{"(- -9223372036854775808 1)", answers(math.MaxInt64, 0)},
		{"(* 4611686018427387904 4)", answers(0, 0)},
		{"(* -9223372036854775808 -1)", answers(math.MinInt64, 0)},
		{"(- 3 10)", answers(-7, 0)},
		{"(/ -7 2)", answers(-3, 0)},
		{"(% -7 2)", answers(-1, 0)},
		{"(/ 7 -2)", answers(-3, 0)},
		{"(% 7 -2)", answers(1, 0)},
		{"(/ -9223372036854775808 -1)", answers(math.MinInt64, 0)},
		{"(% -9223372036854775808 -1)", answers(0, 0)},
		{"(/ 0 0)", raises("Div", 0, 0)},
		{"(% 5 0)", raises("Div", 0, 0)},
		{"(/ (say 1) (- (say 2) 2))", raises("Div", 0, 2, 1, 2)},
		{"(% (say 1) (- (say 2) 2))", raises("Div", 0, 2, 1, 2)},
		{"(if (= 3 3) 1 0)", answers(1, 0)},
		{"(if (= 3 -3) 1 0)", answers(0, 0)},
		{"(if (< -1 0) 1 0)", answers(1, 0)},
		{"(if (< 0 0) 1 0)", answers(0, 0)},
		{"(if (< 9223372036854775807 -9223372036854775808) 1 0)", answers(0, 0)},
		{"(if true 1 (say 2))", answers(1, 0)},
		{"(if false (say 1) 2)", answers(2, 0)},
	})
}

func TestVariables(t *testing.T) {
	checkBodies(t, []body{
		{"(let x 1 (let y 2 (let z 3 (+ (* 100 x) (+ (* 10 y) z)))))", answers(123, 0)},
		{"(let x 1 (+ (let x 2 (+ x (let x 40 x))) (* 100 x)))", answers(142, 0)},
		{"(let x 1 (let x (+ x 1) (* x 10)))", answers(20, 0)},
		{"(let x 1 (case (Pair 2 3) ((Pair x y) (+ (* 10 x) y))))", answers(23, 0)},
		{"(let y 1 (case (Pair 2 3) ((Pair x z) (+ (* 10 y) (+ (* 100 x) z)))))", answers(213, 0)},
		{"(let x 1 (handle (raise no 5) (no x (+ x 1))))", answers(6, 0)},
		{"(let y 1 (handle (let z 9 (raise no z)) (no x (+ x y))))", answers(10, 0)},
		{"(let x 1 (+ (call (fn x (* 2 x)) 20) x))", answers(41, 1)},
		{"(let x 1 (let f (fn y (+ x y)) (let x 100 (call f x))))", answers(101, 1)},
		{"(let x 1 (let f (fn y (fn z (+ x (+ (* 10 y) (* 100 z))))) (let y 7 (call (call f 2) 3))))", answers(321, 2)},
		{"(let f (fn x (fn x (+ x 1))) (call (call f 10) 20))", answers(21, 2)},
		{"(let l (map (fn x (fn y (+ x y))) (upto 3)) (sum (map (fn f (call f 100)) l)))", answers(306, 25)},
		{"(let size 3 (+ size (size (upto size))))", answers(6, 8)},
		{"(let n 1 (+ (say 2) n))", answers(3, 1, 2)},
	})
	checkExamples(t, []example{
		{"(fun main (a b c d) (+ (* 1000 a) (+ (* 100 b) (+ (* 10 c) d))))", []int64{1, 2, 3, 4}, 0, answers(1234, 0)},
		{"(fun main (a b) (let a b (- a 1)))", []int64{1, 2}, 0, answers(1, 0)},
		{"(fun f (b a) (- a b)) (fun main (a b) (f a b))", []int64{1, 20}, 1, answers(19, 1)},
		{"(fun main (n) (if (< n 1) 0 (+ n (main (- n 1)))))", []int64{4}, 4, answers(10, 4)},
		{"(funs (even (n) (if (= n 0) 1 (odd (- n 1)))) (odd (n) (if (= n 0) 0 (even (- n 1))))) (fun main (n) (even n))", []int64{10}, plenty, answers(1, 11)},
	})
}

func TestData(t *testing.T) {
	checkBodies(t, []body{
		{"(+ (rank (Red)) (* 10 (+ (rank (Green)) (* 10 (rank (Blue))))))", answers(321, 3)},
		{"(case (Green) ((Blue) (say 1)) ((Green) (say 2)) ((Red) (say 3)))", answers(2, 1, 2)},
		{"(case (Pair 7 (Pair 8 9)) ((Pair a p) (case p ((Pair b c) (+ a (* b c))))))", answers(79, 0)},
		{"(size (Cons true (Cons false (Nil))))", answers(2, 3)},
		{"(get 1 (tuple 1 2 3))", answers(2, 0)},
		{"(get 2 (get 1 (tuple 0 (tuple (say 1) (say 2) (say 3)))))", answers(3, 3, 1, 2, 3)},
		{"(let t (tuple 1 true unit (Nil) (fn x x)) (if (get 1 t) (call (get 4 t) (get 0 t)) (size (get 3 t))))", answers(1, 1)},
		{"(case (raise no 1) ((Pair a b) a))", raises("no", 1, 0)},
		{"(seq (seq unit true) 3)", answers(3, 0)},
		{"(call (twice (twice (fn x (+ x 1)))) 0)", answers(4, 9)},
	})
}

func TestRefsAndArrays(t *testing.T) {
	checkBodies(t, []body{
		{"(let r (ref 1) (let s r (seq (set s 2) (deref r))))", answers(2, 0)},
		{"(let r (ref 1) (let s (ref 1) (seq (set s 2) (deref r))))", answers(1, 0)},
		{"(let r (ref 1) (let f (fn x (set r (+ (deref r) x))) (seq (call f 10) (seq (call f 100) (deref r)))))", answers(111, 2)},
		{"(let r (ref (fn x x)) (seq (set r (fn x (if (< x 1) 0 (+ x (call (deref r) (- x 1)))))) (call (deref r) 4)))", answers(10, 5)},
		{"(let a (array 2 (ref 5)) (seq (set (at a 0) 6) (deref (at a 1))))", answers(6, 2)},
		{"(let a (array 2 5) (let b a (seq (put b 1 9) (+ (* 10 (at a 0)) (at a 1)))))", answers(59, 2)},
		{"(let a (array 2 (array 1 0)) (seq (put (at a 0) 0 7) (at (at a 1) 0)))", answers(7, 3)},
		{"(let t (tuple (array 1 0) 0) (seq (put (get 0 t) 0 4) (at (get 0 t) 0)))", answers(4, 1)},
		{"(len (array 0 (say 1)))", answers(0, 1, 1)},
		{"(len (array 4096 0))", answers(4096, 4096)},
		{"(len (array 4097 0))", raises("Size", 4097, 0)},
		{"(len (array -1 0))", raises("Size", -1, 0)},
		{"(len (array -9223372036854775808 0))", raises("Size", math.MinInt64, 0)},
		{"(len (array 4294967296 0))", raises("Size", 1<<32, 0)},
		{"(len (array (say -1) (say 2)))", raises("Size", -1, 2, -1, 2)},
		{"(handle (len (array 5000 0)) (Size n (- n 1)))", answers(4999, 0)},
		{"(at (array 3 7) 2)", answers(7, 3)},
		{"(at (array 3 7) 3)", raises("Index", 3, 3)},
		{"(at (array 3 7) -1)", raises("Index", -1, 3)},
		{"(at (array 0 7) 0)", raises("Index", 0, 0)},
		{"(at (array 3 7) 4294967296)", raises("Index", 1<<32, 3)},
		{"(seq (put (array 3 7) 3 1) 0)", raises("Index", 3, 3)},
		{"(seq (put (array 3 7) -1 1) 0)", raises("Index", -1, 3)},
		{"(seq (put (array 3 7) (say 3) (say 4)) 0)", raises("Index", 3, 5, 3, 4)},
		{"(let a (array 3 7) (seq (handle (put a 3 1) (Index i (put a 0 i))) (at a 0)))", answers(3, 3)},
		{"(let a (fill (array 5 0) 0) (+ (at a 0) (+ (* 10 (at a 1)) (* 100 (at a 4)))))", answers(410, 11)},
	})
}

func TestExceptions(t *testing.T) {
	checkBodies(t, []body{
		{"(raise no 3)", raises("no", 3, 0)},
		{"(raise Div 9)", raises("Div", 9, 0)},
		{"(raise Index -9223372036854775808)", raises("Index", math.MinInt64, 0)},
		{"(raise no (raise why 4))", raises("why", 4, 0)},
		{"(handle 5)", answers(5, 0)},
		{"(handle (raise no 5))", raises("no", 5, 0)},
		{"(handle 5 (no x (say x)))", answers(5, 0)},
		{"(handle (raise why 5) (no x 1) (why x (+ x 2)) (Div x 3))", answers(7, 0)},
		{"(handle (raise why 5) (no x 1))", raises("why", 5, 0)},
		{"(handle (raise no 5) (no x (raise no (+ x 1))))", raises("no", 6, 0)},
		{"(handle (raise no 5) (no x (raise why x)) (why x 0))", raises("why", 5, 0)},
		{"(handle (handle (raise no 5) (no x (raise no (+ x 1)))) (no x (* x 10)))", answers(60, 0)},
		{"(handle (handle (raise no 5) (why x 1)) (no x (* x 10)))", answers(50, 0)},
		{"(handle (handle (raise no 5) (no x 1)) (no x 2))", answers(1, 0)},
		{"(handle (say (raise no 5)) (no x x))", answers(5, 0)},
		{"(seq (print (raise no 5)) 1)", raises("no", 5, 0)},
		{"(handle (+ (say 1) (+ (raise no (say 2)) (say 3))) (no x (say (* x 2))))", answers(4, 3, 1, 2, 4)},
		{"(let r (ref 1) (handle (seq (set r 2) (raise no 5)) (no x (+ x (deref r)))))", answers(7, 0)},
		{"(let f (fn x (raise no x)) (handle (call f 5) (no x (+ x 1))))", answers(6, 1)},
		{"(let f (handle (fn x (raise no x)) (no x (fn y 0))) (call f 5))", raises("no", 5, 1)},
		{"(handle (let f (fn x (/ 1 x)) (call f 0)) (Div x (+ x 8)))", answers(8, 1)},
		{"(sum (handle (Cons 1 (raise no 2)) (no x (upto x))))", answers(3, 6)},
	})
}

func TestFuel(t *testing.T) {
	checkExamples(t, []example{
		// The tick of a call is spent behind its arguments and ahead of its body.
		{"(fun main () (say (say (seq (print 7) 8))))", nil, 0, spends(0, 7)},
		{"(fun main () (say (say (seq (print 7) 8))))", nil, 1, spends(1, 7, 8)},
		{"(fun main () (say (say (seq (print 7) 8))))", nil, 2, answers(8, 2, 7, 8, 8)},
		{"(fun main () (call (seq (print 1) (fn x (seq (print x) x))) (seq (print 2) 3)))", nil, 0, spends(0, 1, 2)},
		{"(fun main () (call (seq (print 1) (fn x (seq (print x) x))) (seq (print 2) 3)))", nil, 1, answers(3, 1, 1, 2, 3)},
		{"(fun main () (seq (print 1) 2))", nil, 0, answers(2, 0, 1)},
		{"(fun main () (size (Cons (raise no 1) (Nil))))", nil, 0, raises("no", 1, 0)},
		// Fuel below 0 is none, and above MaxFuel it is MaxFuel.
		{"(fun main () 1)", nil, math.MinInt, answers(1, 0)},
		{"(fun main () (size (Nil)))", nil, -1, spends(0)},
		{"(fun main () (len (array 0 (fn x x))))", nil, math.MinInt, answers(0, 0)},
		{"(fun f (n) (f n)) (fun main (n) (f n))", []int64{1}, plenty, spends(api.MaxFuel)},
		{"(fun f (n) (f n)) (fun main (n) (f n))", []int64{1}, api.MaxFuel + 1, spends(api.MaxFuel)},
		{"(fun f (n) (f n)) (fun main (n) (f n))", []int64{1}, api.MaxFuel - 1, spends(api.MaxFuel - 1)},
		{"(fun f (n) (if (< n 2) n (f (- n 1)))) (fun main (n) (f n))", []int64{api.MaxFuel}, plenty, answers(1, api.MaxFuel)},
		{"(fun f (n) (if (< n 2) n (f (- n 1)))) (fun main (n) (f n))", []int64{api.MaxFuel + 1}, plenty, spends(api.MaxFuel)},
		// Where an array costs more than is left, all the fuel is spent.
		{"(fun main (n) (seq (array n 0) (seq (array n 0) (len (array 1 0)))))", []int64{4096}, plenty, spends(api.MaxFuel)},
		{"(fun main (n) (seq (array n 0) (seq (array n 0) (len (array 0 0)))))", []int64{4096}, plenty, answers(0, api.MaxFuel)},
		{"(fun main (n) (+ (say 1) (len (array n (say 2)))))", []int64{4}, 5, spends(5, 1, 2)},
		{"(fun main (n) (+ (say 1) (len (array n (say 2)))))", []int64{4}, 6, answers(5, 6, 1, 2)},
		{"(fun main (n) (len (array n 0)))", []int64{5000}, 0, raises("Size", 5000, 0)},
		// No handler sees the end of the fuel, and nothing behind it is done.
		{"(fun main () (handle (say 1) (no x 2) (Div x 3) (Index x 4) (Size x 5)))", nil, 0, spends(0)},
		{"(fun main () (seq (handle (forever 1) (no x 2)) (say 9)))", nil, 3, spends(3, 1, 2, 3)},
		// What was spent behind a handle stays spent.
		{"(fun main () (handle (raise no (say 1)) (no x (say (+ x 1)))))", nil, 2, answers(2, 2, 1, 2)},
		{"(fun main () (handle (raise no (say 1)) (no x (say (+ x 1)))))", nil, 1, spends(1, 1)},
	})
}

// order are programs; each _ is the place of an int, in the order in which they are evaluated if none of them raises. What prints 9 is not evaluated.
var order = []string{
	"(fun main () (+ _ _))",
	"(fun main () (- _ _))",
	"(fun main () (* _ _))",
	"(fun main () (/ _ _))",
	"(fun main () (% _ _))",
	"(fun main () (if (= _ _) (say 9) _))",
	"(fun main () (if (< _ _) _ (say 9)))",
	"(fun main () (seq _ _))",
	"(fun main () (let x _ _))",
	"(fun main () (get 1 (tuple _ _ _)))",
	"(fun f (a b c) b) (fun main () (f _ _ _))",
	"(fun f (a b c) (seq a (seq b _))) (fun main () (f 1 2 3))",
	"(fun main () (case (Pair _ _) ((Pair a b) _)))",
	"(fun main () (size (Cons _ (Cons _ (Nil)))))",
	"(fun main () (call (let x _ (fn y _)) 0))",
	"(fun main () (call (seq _ (fn y y)) _))",
	"(fun main () (let f (fn y (say 9)) _))",
	"(fun main () (deref (ref _)))",
	"(fun main () (seq (set (ref _) _) _))",
	"(fun main () (seq (array _ _) _))",
	"(fun main () (at (array 8 _) _))",
	"(fun main () (seq (put (array 8 _) _ _) _))",
	"(fun main () (len (array 8 _)))",
	"(fun main () (seq (handle (print (raise no _)) (no x unit)) _))",
	"(fun main () (handle (raise no _) (why x (say 9)) (no x _)))",
	"(fun main () (handle _ (no x (say 9))))",
	"(fun main () (raise why _))",
}

// TestOrder: all is evaluated from left to right, and nothing behind what raises.
func TestOrder(t *testing.T) {
	for _, text := range order {
		parts := strings.Split(text, "_")
		for raising := 1; raising <= len(parts); raising++ {
			checkOrder(t, parts, raising)
		}
	}
}

// checkOrder looks at a run in which the places print their numbers, and one of them raises, if there is one of that number.
func checkOrder(t *testing.T, parts []string, raising int) {
	t.Helper()
	text := parts[0]
	var outs []int64
	for i := 1; i < len(parts); i++ {
		n := strconv.Itoa(i)
		if i == raising {
			text += "(seq (print " + n + ") (raise Size 77))" + parts[i]
		} else {
			text += "(seq (print " + n + ") " + n + ")" + parts[i]
		}
		if i <= raising {
			outs = append(outs, int64(i))
		}
	}
	got := plain.Run(readUnits(t, library, "(unit m (use lib) "+text+")"), nil, plenty)
	raised := got.Fault == api.FExn && got.Exn == "Size" && got.Payload == 77
	if got.Fault == api.FStuck || raised != (raising < len(parts)) || !slices.Equal(got.Outs, outs) {
		t.Errorf("%s: %+v, not the outputs %v", text, got, outs)
	}
}
