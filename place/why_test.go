package place_test

import (
	"math"
	"slices"
	"testing"

	"heriot/api"
	"heriot/place"
	"heriot/samples"
	"heriot/steps"
)

// whyCase asks for the way to a region from a place of the program's last function; no paths means that there is none.
type whyCase struct {
	at     []int
	region int
	way    [][]int
}

func checkWhy(t *testing.T, text string, cases ...whyCase) {
	t.Helper()
	p := samples.Program(placedLibrary + text)
	if e, at := steps.Check(p); e != api.OK {
		t.Fatalf("Check: %d %v: %s", e, at, text)
	}
	for _, c := range cases {
		got, ok := place.Why(p, api.Spot{Fun: p.Main, Path: c.at}, c.region)
		isSame := slices.EqualFunc(got, c.way, func(s api.Spot, path []int) bool { return s.Fun == p.Main && slices.Equal(s.Path, path) })
		if ok != (len(c.way) > 0) || !isSame {
			t.Errorf("Why of %d at %v: %v %v, not %v: %s", c.region, c.at, got, ok, c.way, text)
		}
	}
}

func way(paths ...[]int) [][]int { return paths }

// TestWhyPlaces: which places there are, and what is live there.
func TestWhyPlaces(t *testing.T) {
	checkWhy(t, "fun main (int) int [new @0; 1 (ref int @0) := ref 0 @0; 2 int := deref 1; end @0; value 2]",
		whyCase{nil, 0, nil},
		whyCase{[]int{0}, 0, way([]int{1})},
		whyCase{[]int{1}, 0, way([]int{2})},
		whyCase{[]int{2}, 0, nil}, // behind the end that follows
		whyCase{[]int{3}, 0, nil},
		whyCase{[]int{4}, 0, nil},
		whyCase{[]int{-1}, 0, nil},
		whyCase{[]int{math.MinInt}, 0, nil},
		whyCase{[]int{math.MaxInt}, 0, nil},
		whyCase{[]int{1, 0}, 0, nil},
		whyCase{[]int{1}, 1, nil},
		whyCase{[]int{1}, -1, nil},
		whyCase{[]int{1}, math.MinInt, nil},
		whyCase{[]int{1}, math.MaxInt, nil})
	// ends at the begin of a block, and behind a step, several of them
	checkWhy(t, `fun main (int) int [new @0; new @1; 1 (ref int @0) := ref 0 @0; 2 (ref int @1) := ref 0 @1; new @2; 3 bool := less 0 0;
	 6 int := if 3 [end @0; end @2; 4 int := deref 2; end @1; value 4] [end @0; end @1; end @2; 5 int := int #1; value 5]; value 6]`,
		whyCase{[]int{3}, 0, nil},
		whyCase{[]int{3}, 1, way([]int{6, 0}, []int{6, 0, 2})},
		whyCase{[]int{6, 0}, 0, nil},
		whyCase{[]int{6, 0}, 1, way([]int{6, 0, 2})},
		whyCase{[]int{6, 0}, 2, nil},
		whyCase{[]int{6, 0, 0}, 1, nil}, // an end's own path
		whyCase{[]int{6, 0, 1}, 1, nil},
		whyCase{[]int{6, 0, 2}, 1, nil},
		whyCase{[]int{6, 1}, 1, nil},
		whyCase{[]int{6, 2}, 1, nil},
		whyCase{[]int{6, -1}, 1, nil},
		whyCase{[]int{6}, 1, nil})
	// what is live and not touched any more has no way
	checkWhy(t, "fun main (int) int [new @0; 1 (ref int @0) := ref 0 @0; 2 int := deref 1; 3 int := int #1; end @0; value 2]",
		whyCase{[]int{1}, 0, way([]int{2})}, whyCase{[]int{2}, 0, nil})
	// formals
	p := samples.Program("fun f 0 2 0 {0} ((ref int @0) (ref int @1)) int [2 int := deref 0; end @0; value 2]; fun main (int) int [value 0]")
	for fun, want := range map[int]bool{0: true, 1: false, 2: false, -1: false, math.MaxInt: false} {
		if got, ok := place.Why(p, api.Spot{Fun: fun}, 0); ok != want || len(got) > 1 {
			t.Errorf("Why of a formal of function %d: %v %v", fun, got, ok)
		}
	}
	if got, ok := place.Why(p, api.Spot{}, 1); ok || len(got) > 0 {
		t.Errorf("Why of a formal that is not touched: %v", got)
	}
	wrong := samples.Program("fun main (int) int [new @0; 1 (ref int @0) := ref 0 @0; 2 int := deref 1; value 2]")
	if got, ok := place.Why(wrong, api.Spot{Path: []int{1}}, 0); ok || len(got) > 0 {
		t.Errorf("Why in a program that Check refuses: %v", got)
	}
	if got, ok := place.Why(api.Program{}, api.Spot{}, 0); ok || len(got) > 0 {
		t.Errorf("Why in no program: %v", got)
	}
}

// TestWhyTouches: which steps touch a region in themselves.
func TestWhyTouches(t *testing.T) {
	const begin = "fun main (int) int [new @0; new @1; 1 (ref int @1) := ref 0 @1; 2 (-> int int @0 {1}) := fn @0 [bind 3; 4 int := deref 1; value 4]; "
	checkWhy(t, begin+"5 int := int #1; 6 int := apply 2 0; end @0; end @1; value 6]",
		whyCase{[]int{0}, 0, way([]int{3})},
		whyCase{[]int{2}, 0, way([]int{3})},
		whyCase{[]int{2}, 1, way([]int{5})}, // neither what the lambda reads, nor the making
		whyCase{[]int{4}, 1, way([]int{5})},
		whyCase{[]int{3, 0}, 1, nil}, // in the lambda it is not live
		whyCase{[]int{3, 0, 0}, 1, nil})
	// a closure that captures a handle, and lambdas in it
	checkWhy(t, `fun main (int) int [new @0; new @1; 5 (-> int int @0 {1}) := fn @0 [bind 1; new @2; new @3; 2 (ref int @3) := ref 1 @3;
	 7 (-> int int @2 {1}) := fn @2 [bind 8; 9 (ref int @1) := ref 8 @1; value 8]; 4 int := deref 2; end @3; 10 int := apply 7 4; end @2; value 10]; end @0; end @1; value 0]`,
		whyCase{[]int{1}, 1, way([]int{2})},
		whyCase{[]int{1}, 0, way([]int{2})},
		whyCase{[]int{2, 0}, 2, nil},
		whyCase{[]int{2, 0, 0}, 2, way([]int{2, 0, 3})},
		whyCase{[]int{2, 0, 3}, 2, way([]int{2, 0, 6})},
		whyCase{[]int{2, 0, 2}, 3, way([]int{2, 0, 4})},
		whyCase{[]int{2, 0, 4}, 3, nil},
		whyCase{[]int{2, 0, 3}, 1, nil},
		whyCase{[]int{2, 0, 3, 0}, 1, nil})
	// calls: by the callee's regions, and by its effects
	checkWhy(t, `fun doing 0 2 1 {0 e0} ((-> int int @0 {e0}) (ref int @1) int) int [3 int := apply 0 2; end @0; value 3];
	 fun main (int) int [new @0; new @1; new @2; 1 (ref int @1) := ref 0 @1; 2 (-> int int @0 {1}) := fn @0 [bind 3; 4 int := deref 1; value 4]; 5 (ref int @2) := ref 0 @2;
	 6 int := int #1; 7 int := call .0 {1} @0 @2 last 2 5 6; end @1; 8 int := deref 5; end @2; value 8]`,
		whyCase{[]int{6}, 0, way([]int{7})},
		whyCase{[]int{6}, 1, way([]int{7})},
		whyCase{[]int{6}, 2, way([]int{9})},
		whyCase{[]int{7}, 0, nil},
		whyCase{[]int{7}, 1, nil})
	// all other readings
	checkWhy(t, `fun main (int) int [new @0; new @1; 1 (ref int @0) := ref 0 @0; 2 (array (ref int @0) @1) := array 0 1 @1; 3 int := len 2; 4 unit := put 2 3 1; 5 (ref int @0) := at 2 3;
	 6 unit := set 5 3; new @2; 7 (* int int @2) := tuple 0 0 @2; 8 int := get #0 7; end @0; end @1; end @2; value 8]`,
		whyCase{[]int{3}, 1, way([]int{4})}, whyCase{[]int{4}, 1, way([]int{5})}, whyCase{[]int{5}, 1, way([]int{6})}, whyCase{[]int{6}, 1, nil},
		whyCase{[]int{3}, 0, way([]int{7})}, whyCase{[]int{8}, 2, way([]int{9})}, whyCase{[]int{9}, 2, way([]int{10})})
	// a case of what may have fields; what it binds is read; and one of what has none
	checkWhy(t, `fun main (int) int [new @0; new @1; 1 (* int int @1) := tuple 0 0 @1; 2 (d0 (* int int @1) @0) := make .0; 3 (d0 (* int int @1) @0) := make .1 1 2 @0; 4 int := int #1;
	 9 int := case 3 [end @0; end @1; value 0] [bind 5 6; end @0; 7 int := int #1; 8 int := get #0 5; end @1; value 8]; value 9]`,
		whyCase{[]int{5}, 0, way([]int{6})}, whyCase{[]int{5}, 1, way([]int{6, 1}, []int{6, 1, 2})}, whyCase{[]int{6, 1}, 1, way([]int{6, 1, 2})}, whyCase{[]int{6, 0}, 1, nil})
	checkWhy(t, "fun main (int) int [new @0; 1 (d1 @0) := make .2; 2 int := case 1 [value 0] [value 0] [value 0]; end @0; value 2]", whyCase{[]int{0}, 0, nil}, whyCase{[]int{1}, 0, nil})
	// what a handle's second block binds is what its first one gives
	checkWhy(t, "fun main (int) int [new @0; 5 int := handle {0} [1 (* int int @0) := tuple 0 0 @0; value 1] [bind 2; 3 int := get #0 2; end @0; value 3]; value 5]",
		whyCase{[]int{1, 1}, 0, way([]int{1, 1, 0})}, whyCase{[]int{1, 0, 0}, 0, way([]int{1, 1}, []int{1, 1, 0})}, whyCase{[]int{1, 0}, 0, way([]int{1, 0, 0})})
}

// TestWhyOutside: how a way goes on outside of a block.
func TestWhyOutside(t *testing.T) {
	checkWhy(t, `fun main (int) int [new @0; 1 (ref int @0) := ref 0 @0; 2 bool := less 0 0;
	 9 int := if 2 [7 int := if 2 [3 int := int #1; value 3] [4 int := deref 1; value 4]; value 7] [value 0]; 8 int := add 9 9; 10 int := deref 1; end @0; value 10]`,
		whyCase{[]int{2}, 0, way([]int{3, 0}, []int{3, 0, 0, 1}, []int{3, 0, 0, 1, 0})},
		whyCase{[]int{3, 0}, 0, way([]int{3, 0, 0, 1}, []int{3, 0, 0, 1, 0})},
		whyCase{[]int{3, 0, 0, 0}, 0, way([]int{5})}, // not by the other block
		whyCase{[]int{3, 0, 0, 0, 0}, 0, way([]int{5})},
		whyCase{[]int{3, 0, 0, 1, 0}, 0, way([]int{5})},
		whyCase{[]int{3, 1}, 0, way([]int{5})},
		whyCase{[]int{4}, 0, way([]int{5})})
	checkWhy(t, `fun main (int) int [new @0; 1 (ref int @0) := ref 0 @0; new @1; 2 (d1 @1) := make .1; end @1; 9 int := case 2 [value 0] [3 int := deref 1; value 3] [4 int := deref 1; value 4]; 5 int := deref 1; end @0; value 5]`,
		whyCase{[]int{3}, 0, way([]int{5, 1}, []int{5, 1, 0})}, whyCase{[]int{5, 0}, 0, way([]int{6})}, whyCase{[]int{5, 1, 0}, 0, way([]int{6})})
	const handle = `fun main (int) int [new @0; new @1; 1 (ref int @0) := ref 0 @0; 2 (ref int @1) := ref 0 @1;
	 9 int := handle {0 1} [3 int := div 0 0; value 3] [bind 4; value 4] [exn 1; bind 5; 6 int := deref 1; value 6] [exn 2; bind 7; 8 int := deref 1; 11 int := deref 2; value 11];
	 10 int := deref 1; end @0; 12 int := deref 2; end @1; value 12]`
	checkWhy(t, handle,
		whyCase{[]int{3}, 0, way([]int{4, 2}, []int{4, 2, 0})},
		whyCase{[]int{4, 0}, 0, way([]int{4, 2}, []int{4, 2, 0})},
		whyCase{[]int{4, 0, 0}, 1, way([]int{4, 3}, []int{4, 3, 1})},
		whyCase{[]int{4, 1}, 0, way([]int{5})},
		whyCase{[]int{4, 2, 0}, 0, way([]int{5})},
		whyCase{[]int{4, 2, 0}, 1, way([]int{7})},
		whyCase{[]int{4, 3}, 1, way([]int{4, 3, 1})})
	// no arm touches: behind the handle; and a handle in a handle
	checkWhy(t, `fun main (int) int [new @0; 1 (ref int @0) := ref 0 @0; 2 int := handle {0} [value 0] [bind 3; value 3]; 4 int := deref 1; end @0; value 4]`,
		whyCase{[]int{2, 0}, 0, way([]int{3})}, whyCase{[]int{2, 1}, 0, way([]int{3})})
	checkWhy(t, `fun main (int) int [new @0; 1 (ref int @0) := ref 0 @0; 8 int := handle {0} [7 int := handle {0} [2 int := div 0 0; value 2] [bind 3; value 3]; value 7] [bind 4; value 4]
	 [exn 0; bind 5; 6 int := deref 1; value 6]; end @0; value 8]`,
		whyCase{[]int{2, 0, 0, 0}, 0, way([]int{2, 2}, []int{2, 2, 0})}, whyCase{[]int{2, 0, 0}, 0, way([]int{2, 2}, []int{2, 2, 0})}, whyCase{[]int{2, 1}, 0, nil})
	// what ends in a block
	checkWhy(t, `fun main (int) int [new @0; 1 (ref int @0) := ref 0 @0; 8 int := handle [2 int := deref 1; end @0; 3 int := div 0 0; value 3] [bind 4; value 4]; value 8]`,
		whyCase{[]int{1}, 0, way([]int{2, 0}, []int{2, 0, 0})}, whyCase{[]int{2, 0, 0}, 0, nil}, whyCase{[]int{2, 1}, 0, nil}, whyCase{[]int{2}, 0, nil})
	// a lambda's block has no outside
	checkWhy(t, `fun main (int) int [new @0; 1 (ref int @0) := ref 0 @0; new @1; 5 (-> int int @1) := fn @1 [bind 2; new @2; 3 (ref int @2) := ref 2 @2; 4 int := add 2 2; end @2; value 4]; end @1;
	 6 int := deref 1; end @0; value 6]`,
		whyCase{[]int{3, 0, 0}, 2, way([]int{3, 0, 1})}, whyCase{[]int{3, 0, 1}, 2, nil}, whyCase{[]int{3, 0, 1}, 0, nil}, whyCase{[]int{3}, 0, way([]int{5})})
}
