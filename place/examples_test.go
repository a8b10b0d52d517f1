package place_test

import "testing"

// TestExamples are the chapter's.
func TestExamples(t *testing.T) {
	const (
		pair       = "fun pair (int) (* int int) [1 (* int int) := tuple 0 0; value 1];"
		placedPair = "fun pair 0 1 0 {0} (int) (* int int @0) [1 (* int int @0) := tuple 0 0 @0; end @0; value 1];"
		fst        = "fun fst ((* int int)) int [1 int := get #0 0; value 1];"
		placedFst  = "fun fst 0 1 0 {0} ((* int int @0)) int [1 int := get #0 0; end @0; value 1];"
		empty      = "fun nil () (d0 int) [0 (d0 int) := make .0; value 0];"
		placedNil  = "fun nil 0 1 1 {} () (d0 int @0 {e0}) [0 (d0 int @0 {e0}) := make .0; value 0];"
	)
	for _, c := range [][2]string{
		{"fun main (int) int [1 (* int int) := tuple 0 0; 2 int := get #0 1; value 2]",
			"fun main (int) int [new @0; 1 (* int int @0) := tuple 0 0 @0; 2 int := get #0 1; end @0; value 2]"},
		{pair + "fun main (int) int [1 (* int int) := call .0 0; 2 int := get #0 1; value 2]",
			placedPair + "fun main (int) int [new @0; 1 (* int int @0) := call .0 @0 keep 0; 2 int := get #0 1; end @0; value 2]"},
		{fst + "fun main (int) int [1 (* int int) := tuple 0 0; 2 int := call .0 1; value 2]",
			placedFst + "fun main (int) int [new @0; 1 (* int int @0) := tuple 0 0 @0; 2 int := call .0 @0 last 1; value 2]"},
		{"fun main (int) int [1 (* int int) := tuple 0 0; 2 bool := bool #1; 5 int := if 2 [3 int := get #0 1; value 3] [4 int := int #7; value 4]; value 5]",
			"fun main (int) int [new @0; 1 (* int int @0) := tuple 0 0 @0; 2 bool := bool #1; 5 int := if 2 [3 int := get #0 1; end @0; value 3] [end @0; 4 int := int #7; value 4]; value 5]"},
		{empty + "fun main (int) int [1 (d0 int) := call .0; value 0]",
			placedNil + "fun main (int) int [new @0; end @0; 1 (d0 int @0) := call .0 {} @0; value 0]"},
		{"fun add (int) (-> int int) [4 (-> int int) := fn [bind 1; 2 (* int int) := tuple 0 1; 3 int := get #0 2; value 3]; value 4];" + someMain,
			`fun add 0 1 1 {0} (int) (-> int int @0 {e0}) [4 (-> int int @0 {e0}) := fn @0 [bind 1; new @1; 2 (* int int @1) := tuple 0 1 @1; 3 int := get #0 2; end @1; value 3];
			 end @0; value 4];` + someMain},
	} {
		placedIs(t, c[0], c[1])
	}
}

// TestBegin: where regions begin, and what stands at one place.
func TestBegin(t *testing.T) {
	for _, c := range [][2]string{
		// the end of what began elsewhere, then regions that are never touched, each with its end, then one that is
		{"fun main (int) int [1 (* int int) := tuple 0 0; 2 int := get #0 1; 3 (* (d0 int) int) := raise .0 0; 4 (* int int) := tuple 2 2; 5 int := get #0 4; value 5]",
			`fun main (int) int [new @0; 1 (* int int @0) := tuple 0 0 @0; 2 int := get #0 1; end @0; new @1; end @1; new @2; end @2;
			 3 (* (d0 int @2) int @1) := raise .0 0; new @3; 4 (* int int @3) := tuple 2 2 @3; 5 int := get #0 4; end @3; value 5]`},
		// the value of a handle's first block lives longer than that block
		{"fun main (int) int [6 int := handle [1 (* int int) := tuple 0 0; value 1] [bind 4; 5 int := get #0 4; value 5] [bind 7; value 7]; value 6]",
			"fun main (int) int [new @0; 6 int := handle {0} [1 (* int int @0) := tuple 0 0 @0; value 1] [bind 4; 5 int := get #0 4; end @0; value 5] [bind 7; end @0; value 7]; value 6]"},
		// in the innermost block
		{"fun main (int) int [1 bool := less 0 0; 4 int := if 1 [2 (ref int) := ref 0; 3 int := deref 2; value 3] [value 0]; value 4]",
			"fun main (int) int [1 bool := less 0 0; 4 int := if 1 [new @0; 2 (ref int @0) := ref 0 @0; 3 int := deref 2; end @0; value 3] [value 0]; value 4]"},
		// a constructor without fields is in no region, but its type is
		{"fun main (int) int [1 (d1) := make .1; 2 int := case 1 [value 0] [value 0] [value 0]; value 2]",
			"fun main (int) int [new @0; end @0; 1 (d1 @0) := make .1; 2 int := case 1 [value 0] [value 0] [value 0]; value 2]"},
		// ahead of a step inside which it is mentioned: g's name for the region that f hides
		{`fun f (int) (-> int int) [1 (ref int) := ref 0; 2 (-> int int) := fn [bind 3; 4 int := deref 1; value 4]; 5 int := call .1 0; value 2];
		  fun g (int) int [1 bool := less 0 0; 6 int := if 1 [2 (-> int int) := call .0 0; 3 int := apply 2 0; value 3] [4 (-> int int) := call .0 0; 5 int := apply 4 0; value 5]; value 6];` + someMain,
			`fun f 0 2 1 {0 1} (int) (-> int int @0 {1 e0}) [1 (ref int @1) := ref 0 @1; end @1; 2 (-> int int @0 {1 e0}) := fn @0 [bind 3; 4 int := deref 1; value 4]; end @0; 5 int := call .1 0; value 2];
			 fun g (int) int [1 bool := less 0 0; new @0; 6 int := if 1 [new @1; 2 (-> int int @1 {0}) := call .0 {} @1 @0 keep keep 0; 3 int := apply 2 0; end @0; end @1; value 3]
			  [new @2; 4 (-> int int @2 {0}) := call .0 {} @2 @0 keep keep 0; 5 int := apply 4 0; end @0; end @2; value 5]; value 6];` + someMain},
	} {
		placedIs(t, c[0], c[1])
	}
}

// TestEnd: where regions are given back.
func TestEnd(t *testing.T) {
	for _, c := range [][2]string{
		// several at one place, by their numbers
		{"fun f ((* int int) (ref int)) int [2 int := int #1; value 2];" + someMain, "fun f 0 2 0 {} ((* int int @0) (ref int @1)) int [2 int := int #1; value 2];" + someMain},
		{"fun f ((-> int int) (ref int)) int [2 int := deref 1; 3 int := apply 0 2; value 3];" + someMain,
			"fun f 0 2 1 {0 1 e0} ((-> int int @0 {e0}) (ref int @1)) int [2 int := deref 1; end @1; 3 int := apply 0 2; end @0; value 3];" + someMain},
		{"fun main (int) int [1 (ref int) := ref 0; 2 (ref int) := ref 0; 3 int := handle [4 int := deref 1; 5 int := deref 2; value 4] [bind 6; value 6] [exn 1; bind 7; 8 int := deref 2; 9 int := deref 1; value 9]; value 3]",
			`fun main (int) int [new @0; 1 (ref int @0) := ref 0 @0; new @1; 2 (ref int @1) := ref 0 @1; 3 int := handle {0 1} [4 int := deref 1; 5 int := deref 2; value 4]
			 [bind 6; end @0; end @1; value 6] [exn 1; bind 7; 8 int := deref 2; end @1; 9 int := deref 1; end @0; value 9]; value 3]`},
		// a handle whose first block alone touches
		{"fun main (int) int [1 (ref int) := ref 0; 6 int := handle [2 int := deref 1; 3 int := div 2 0; value 3] [bind 4; value 4] [bind 5; value 5]; value 6]",
			"fun main (int) int [new @0; 1 (ref int @0) := ref 0 @0; 6 int := handle [2 int := deref 1; end @0; 3 int := div 2 0; value 3] [bind 4; value 4] [bind 5; value 5]; value 6]"},
		// a handle keeps what a handle around it keeps, and what is touched behind it
		{"fun main (int) int [1 (ref int) := ref 0; 6 int := handle [8 int := handle [3 int := div 0 0; value 3] [bind 4; value 4]; value 8] [bind 9; value 9] [bind 5; 7 int := deref 1; value 7]; value 6]",
			`fun main (int) int [new @0; 1 (ref int @0) := ref 0 @0; 6 int := handle {0} [8 int := handle {0} [3 int := div 0 0; value 3] [bind 4; value 4]; value 8] [bind 9; end @0; value 9]
			 [bind 5; 7 int := deref 1; end @0; value 7]; value 6]`},
		{"fun main (int) int [1 (ref int) := ref 0; 6 int := handle [value 0] [bind 4; value 4]; 7 int := deref 1; value 7]",
			"fun main (int) int [new @0; 1 (ref int @0) := ref 0 @0; 6 int := handle {0} [value 0] [bind 4; value 4]; 7 int := deref 1; end @0; value 7]"},
		// a case touches what it looks at, if that may have fields
		{"fun main (int) int [1 (d0 int) := make .0; 2 (d0 int) := make .1 0 1; 5 int := case 2 [value 0] [bind 3 4; 7 int := case 4 [value 3] [bind 8 9; value 8]; value 7]; value 5]",
			`fun main (int) int [new @0; 1 (d0 int @0) := make .0; 2 (d0 int @0) := make .1 0 1 @0; 5 int := case 2 [end @0; value 0]
			 [bind 3 4; 7 int := case 4 [end @0; value 3] [bind 8 9; end @0; value 8]; value 7]; value 5]`},
	} {
		placedIs(t, c[0], c[1])
	}
}

// TestCalls: what a call hands over, and its effects.
func TestCalls(t *testing.T) {
	const (
		both       = "fun both ((* int int) (* int int)) int [2 int := get #0 0; 3 int := get #0 1; 4 int := add 2 3; value 4];"
		placedBoth = "fun both 0 2 0 {0 1} ((* int int @0) (* int int @1)) int [2 int := get #0 0; end @0; 3 int := get #0 1; end @1; 4 int := add 2 3; value 4];"
		use        = "fun use ((-> int int) (* int int)) int [2 int := get #0 1; 3 int := apply 0 2; value 3];"
		placedUse  = "fun use 0 2 1 {0 1 e0} ((-> int int @0 {e0}) (* int int @1)) int [2 int := get #0 1; end @1; 3 int := apply 0 2; end @0; value 3];"
	)
	for _, c := range [][2]string{
		{both + "fun main (int) int [1 (* int int) := tuple 0 0; 2 (* int int) := tuple 0 0; 3 int := call .0 1 2; value 3]",
			placedBoth + "fun main (int) int [new @0; 1 (* int int @0) := tuple 0 0 @0; new @1; 2 (* int int @1) := tuple 0 0 @1; 3 int := call .0 @0 @1 last last 1 2; value 3]"},
		// one region for two of the callee's
		{both + "fun main (int) int [1 (* int int) := tuple 0 0; 2 int := call .0 1 1; value 2]",
			placedBoth + "fun main (int) int [new @0; 1 (* int int @0) := tuple 0 0 @0; 2 int := call .0 @0 @0 keep keep 1 1; end @0; value 2]"},
		// one that stands in an effect, too
		{use + "fun main (int) int [1 (* int int) := tuple 0 0; 2 (-> int int) := fn [bind 3; 4 int := get #0 1; 5 int := add 3 4; value 5]; 6 int := call .0 2 1; value 6]",
			placedUse + `fun main (int) int [new @0; 1 (* int int @0) := tuple 0 0 @0; new @1; 2 (-> int int @1 {0}) := fn @1 [bind 3; 4 int := get #0 1; 5 int := add 3 4; value 5];
			 6 int := call .0 {0} @1 @0 last keep 2 1; end @0; value 6]`},
		// one that the callee does not touch is given back ahead of the call
		{"fun no ((* int int)) int [1 int := int #1; value 1]; fun main (int) int [1 (* int int) := tuple 0 0; 2 int := call .0 1; value 2]",
			"fun no 0 1 0 {} ((* int int @0)) int [1 int := int #1; value 1]; fun main (int) int [new @0; 1 (* int int @0) := tuple 0 0 @0; end @0; 2 int := call .0 @0 1; value 2]"},
		// one that lives on
		{both + "fun main (int) int [1 (* int int) := tuple 0 0; 2 (* int int) := tuple 0 0; 3 int := call .0 1 2; 4 int := get #0 1; value 4]",
			placedBoth + "fun main (int) int [new @0; 1 (* int int @0) := tuple 0 0 @0; new @1; 2 (* int int @1) := tuple 0 0 @1; 3 int := call .0 @0 @1 keep last 1 2; 4 int := get #0 1; end @0; value 4]"},
		// at other types
		{"fun same 1 (v0) v0 [value 0]; fun main (int) int [1 (ref int) := ref 0; 2 (ref int) := call .0 ((ref int)) 1; 3 int := deref 2; value 3]",
			"fun same 1 (v0) v0 [value 0]; fun main (int) int [new @0; 1 (ref int @0) := ref 0 @0; 2 (ref int @0) := call .0 ((ref int @0)) 1; 3 int := deref 2; end @0; value 3]"},
	} {
		placedIs(t, c[0], c[1])
	}
}

// TestLambdas: what lambdas touch, and what stands in effects.
func TestLambdas(t *testing.T) {
	for _, c := range [][2]string{
		// a lambda in a lambda: the outer one captures the handles that the inner one needs
		{`fun main (int) int [1 (-> int (-> int (* int int))) := fn [bind 2; 3 (-> int (* int int)) := fn [bind 4; 5 (* int int) := tuple 2 4; value 5]; value 3];
		  6 (-> int (* int int)) := apply 1 0; 7 (* int int) := apply 6 0; 8 int := get #1 7; value 8]`,
			`fun main (int) int [new @0; new @1; new @2; 1 (-> int (-> int (* int int @2) @1 {2}) @0 {1 2}) := fn @0 [bind 2;
			  3 (-> int (* int int @2) @1 {2}) := fn @1 [bind 4; 5 (* int int @2) := tuple 2 4 @2; value 5]; value 3];
			 6 (-> int (* int int @2) @1 {2}) := apply 1 0; end @0; 7 (* int int @2) := apply 6 0; end @1; 8 int := get #1 7; end @2; value 8]`},
		// of what it reads it captures no handle: the region ends where the closure is not called any more
		{"fun main (int) int [1 (ref int) := ref 0; 2 (-> int int) := fn [bind 3; 4 int := deref 1; value 4]; 5 int := apply 2 0; value 5]",
			"fun main (int) int [new @0; 1 (ref int @0) := ref 0 @0; new @1; 2 (-> int int @1 {0}) := fn @1 [bind 3; 4 int := deref 1; value 4]; 5 int := apply 2 0; end @0; end @1; value 5]"},
		{"fun main (int) int [1 (ref int) := ref 0; 2 (-> int int) := fn [bind 3; 4 int := deref 1; value 4]; value 0]",
			"fun main (int) int [new @0; 1 (ref int @0) := ref 0 @0; end @0; new @1; 2 (-> int int @1 {0}) := fn @1 [bind 3; 4 int := deref 1; value 4]; end @1; value 0]"},
		// a region that stands in an effect alone is a hidden formal; each call has a new one for it
		{`fun keep (int) (-> int int) [1 (ref int) := ref 0; 2 (-> int int) := fn [bind 3; 4 int := deref 1; 5 int := add 3 4; value 5]; value 2];
		  fun main (int) int [1 (-> int int) := call .0 0; 2 (-> int int) := call .0 0; 3 int := apply 1 0; 4 int := apply 2 3; value 4]`,
			`fun keep 0 2 1 {0 1} (int) (-> int int @0 {1 e0}) [1 (ref int @1) := ref 0 @1; end @1; 2 (-> int int @0 {1 e0}) := fn @0 [bind 3; 4 int := deref 1; 5 int := add 3 4; value 5]; end @0; value 2];
			 fun main (int) int [new @0; new @1; 1 (-> int int @0 {1}) := call .0 {} @0 @1 keep keep 0; new @2; new @3; 2 (-> int int @2 {3}) := call .0 {} @2 @3 keep keep 0;
			 3 int := apply 1 0; end @0; end @1; 4 int := apply 2 3; end @2; end @3; value 4]`},
		// one effect has the other one's variable
		{"fun f ((-> int int) (-> int int) bool) int [5 (-> int int) := if 2 [value 0] [3 (-> int int) := fn [bind 4; 6 int := apply 1 4; value 6]; value 3]; 11 int := int #1; value 11];" + someMain,
			`fun f 0 2 2 {0} ((-> int int @0 {1 e0 e1}) (-> int int @1 {e1}) bool) int [5 (-> int int @0 {1 e0 e1}) := if 2 [end @0; value 0]
			 [3 (-> int int @0 {1 e0 e1}) := fn @0 [bind 4; 6 int := apply 1 4; value 6]; end @0; value 3]; 11 int := int #1; value 11];` + someMain},
		// each has the other one's: they are the same
		{`fun f ((-> int int) (-> int int) bool) int [5 (-> int int) := if 2 [value 0] [3 (-> int int) := fn [bind 4; 6 int := apply 1 4; value 6]; value 3];
		  10 (-> int int) := if 2 [value 1] [7 (-> int int) := fn [bind 8; 9 int := apply 0 8; value 9]; value 7]; 11 int := int #1; value 11];
		  fun g ((-> int int) (-> int int) bool (-> int int)) int [4 int := call .0 0 1 2; 5 int := apply 1 4; 6 int := apply 3 5; value 6];` + someMain,
			`fun f 0 2 1 {0 1} ((-> int int @0 {0 1 e0}) (-> int int @1 {0 1 e0}) bool) int [5 (-> int int @0 {0 1 e0}) := if 2 [end @0; value 0]
			  [3 (-> int int @0 {0 1 e0}) := fn @0 [bind 4; 6 int := apply 1 4; value 6]; end @0; value 3];
			 10 (-> int int @1 {0 1 e0}) := if 2 [end @1; value 1] [7 (-> int int @1 {0 1 e0}) := fn @1 [bind 8; 9 int := apply 0 8; value 9]; end @1; value 7]; 11 int := int #1; value 11];
			 fun g 0 3 2 {0 1 2 e0 e1} ((-> int int @0 {0 1 e0}) (-> int int @1 {0 1 e0}) bool (-> int int @2 {e1})) int
			 [4 int := call .0 {e0} @0 @1 keep keep 0 1 2; 5 int := apply 1 4; end @0; end @1; 6 int := apply 3 5; end @2; value 6];` + someMain},
	} {
		placedIs(t, c[0], c[1])
	}
}

// TestGroups: functions that call themselves, or each other.
func TestGroups(t *testing.T) {
	for _, c := range [][2]string{
		// what the result is at a call is what it is, and at other types
		{"fun turn ((* int int) (* int int) int) (* int int) [3 bool := less 2 2; 5 (* int int) := if 3 [value 0] [4 (* int int) := call .0 1 0 2; value 4]; value 5];" + someMain,
			`fun turn 0 1 0 {} ((* int int @0) (* int int @0) int) (* int int @0) [3 bool := less 2 2; 5 (* int int @0) := if 3 [value 0] [4 (* int int @0) := call .0 @0 1 0 2; value 4]; value 5];` + someMain},
		{"fun grow 1 (v0 int) int [2 (* v0 v0) := tuple 0 0; 3 int := call .0 ((* v0 v0)) 2 1; value 3];" + someMain,
			"fun grow 1 (v0 int) int [new @0; 2 (* v0 v0 @0) := tuple 0 0 @0; end @0; 3 int := call .0 ((* v0 v0 @0)) 2 1; value 3];" + someMain},
		// a loop gives back what it has
		{"fun loop ((ref int) int) int [2 int := deref 0; 3 (ref int) := ref 2; 4 int := call .0 3 2; value 4]; fun main (int) int [1 (ref int) := ref 0; 2 int := call .0 1 0; value 2]",
			`fun loop 0 1 0 {0} ((ref int @0) int) int [2 int := deref 0; end @0; new @1; 3 (ref int @1) := ref 2 @1; 4 int := call .0 @1 last 3 2; value 4];
			 fun main (int) int [new @0; 1 (ref int @0) := ref 0 @0; 2 int := call .0 @0 last 1 0; value 2]`},
		// a hidden region is the same at a call of itself
		{`fun loop ((-> int int) int) (-> int int) [2 (ref int) := ref 1; 3 (-> int int) := fn [bind 4; 5 int := deref 2; 6 int := apply 0 5; value 6]; 7 bool := less 1 1;
		  9 (-> int int) := if 7 [value 0] [8 (-> int int) := call .0 3 1; value 8]; value 9];` + someMain,
			`fun loop 0 2 1 {0 1} ((-> int int @0 {0 1 e0}) int) (-> int int @0 {0 1 e0}) [2 (ref int @1) := ref 1 @1;
			  3 (-> int int @0 {0 1 e0}) := fn @0 [bind 4; 5 int := deref 2; 6 int := apply 0 5; value 6]; 7 bool := less 1 1;
			  9 (-> int int @0 {0 1 e0}) := if 7 [end @0; end @1; value 0] [8 (-> int int @0 {0 1 e0}) := call .0 {e0} @0 @1 last last 3 1; value 8]; value 9];` + someMain},
		// and has one name in another function of the group
		{`fun f ((-> int int) int) (-> int int) [2 (ref int) := ref 1; 3 (-> int int) := fn [bind 4; 5 int := deref 2; value 5]; 8 (-> int int) := call .1 3 1; value 8];
		  fun g ((-> int int) int) (-> int int) [7 bool := less 1 1; 9 (-> int int) := if 7 [value 0] [8 (-> int int) := call .0 0 1; value 8]; value 9];
		  fun main (int) int [1 (-> int int) := fn [bind 2; value 2]; 3 (-> int int) := call .1 1 0; 4 int := apply 3 0; value 4]`,
			`fun f 0 3 2 {1 2} ((-> int int @0 {e0}) int) (-> int int @1 {2 e1}) [2 (ref int @2) := ref 1 @2; 3 (-> int int @1 {2 e1}) := fn @1 [bind 4; 5 int := deref 2; value 5];
			  8 (-> int int @1 {2 e1}) := call .1 {e1} @1 @2 last last 3 1; value 8];
			 fun g 0 2 1 {0 1} ((-> int int @0 {1 e0}) int) (-> int int @0 {1 e0}) [7 bool := less 1 1; 9 (-> int int @0 {1 e0}) := if 7 [end @0; end @1; value 0]
			  [8 (-> int int @0 {1 e0}) := call .0 {1 e0} {e0} @0 @0 @1 keep keep 0 1; end @0; end @1; value 8]; value 9];
			 fun main (int) int [new @0; new @1; 1 (-> int int @0 {1}) := fn @0 [bind 2; value 2]; 3 (-> int int @0 {1}) := call .1 {} @0 @1 keep keep 1 0; 4 int := apply 3 0; end @0; end @1; value 4]`},
	} {
		placedIs(t, c[0], c[1])
	}
}
