package flat_test

import (
	"testing"

	"heriot/api"
	"heriot/flat"
	"heriot/samples"
)

// TestDocument: the examples of the chapter that are about Valid.
func TestDocument(t *testing.T) {
	checkValid(t, "fun main (int) int [value 0]", api.OK)
	checkValid(t, "fun main (int) int [1 int := int #1; 2 int := div 0 1; value 2]", api.OK)
	checkValid(t, "fun main (int) int [1 int := int #1; 2 bool := div 0 1; value 2]", api.ErrFlat)
	checkValid(t, "fun main (int) int [1 bool := bool #1; 2 int := if 1 [3 int := int; value 3] [value 0]; value 3]", api.ErrFlat)
	checkValid(t, "fun main (int) int [4 int := handle [1 int := int; 2 int := div 0 1; value 2] [bind 3; value 3] [exn 0; bind 5; value 5]; value 4]", api.OK)
	checkValid(t, "fun f (int) int [1 int := call .0 0; value 1]; fun main (int) int [1 int := call .0 0; value 1]", api.OK)
}

// TestRules: for each operation what is right, and what is not.
func TestRules(t *testing.T) {
	for _, r := range []struct{ right, wrong []string }{
		{[]string{"() int [0 int := int #-5; value 0]"},
			[]string{"() bool [0 bool := int #1; value 0]", "(int) int [1 int := int #1 0; value 1]", "() int [0 int := int .1; value 0]", "() int [1 int := int [0 int := int; value 0]; value 1]"}},
		{[]string{"() bool [0 bool := bool; value 0]", "() bool [0 bool := bool #1; value 0]"},
			[]string{"() bool [0 bool := bool #2; value 0]", "() bool [0 bool := bool #-1; value 0]", "() int [0 int := bool; value 0]"}},
		{[]string{"() unit [0 unit := unit; value 0]"},
			[]string{"() unit [0 unit := unit #1; value 0]", "() int [0 int := unit; value 0]"}},
		{[]string{"() (d0 bool) [0 (d0 bool) := make .0; value 0]", "(v1 (d0 v1)) (d0 v1) [2 (d0 v1) := make .1 0 1; value 2]", "() (d1) [0 (d1) := make .2; value 0]",
			"(int (d3 (* int int))) (d3 int) [2 (d3 int) := make .1 0 1; value 2]"},
			[]string{"(int) int [1 int := make .0; value 1]", "() (d0 bool) [0 (d0 bool) := make .2; value 0]", "() (d0 bool) [0 (d0 bool) := make .-1; value 0]",
				"(v1 (d0 v1)) (d0 v1) [2 (d0 v1) := make .1 0; value 2]", "(v1 (d0 v1)) (d0 v1) [2 (d0 v1) := make .1 0 1 1; value 2]", "(v1 (d0 v1)) (d0 v1) [2 (d0 v1) := make .1 1 0; value 2]",
				"(int (d0 v1)) (d0 v1) [2 (d0 v1) := make .1 0 1; value 2]", "(int (d3 int)) (d3 int) [2 (d3 int) := make .1 0 1; value 2]", "() (d0 bool) [0 (d0 bool) := make .0 #1; value 0]"}},
		{[]string{"(int bool) (* bool int int) [2 (* bool int int) := tuple 1 0 0; value 2]"},
			[]string{"(int bool) (* bool int) [2 (* bool int) := tuple 0 1; value 2]", "(int) (* int int) [1 (* int int) := tuple 0; value 1]", "(int) (* int int) [1 (* int int) := tuple 0 0 0; value 1]",
				"(int) (ref int) [1 (ref int) := tuple 0; value 1]", "(int) (* int int) [1 (* int int) := tuple 0 0 #1; value 1]"}},
		{[]string{"((* int bool)) bool [1 bool := get #1 0; value 1]"},
			[]string{"((* int bool)) int [1 int := get #1 0; value 1]", "((* int int)) int [1 int := get #2 0; value 1]", "((* int int)) int [1 int := get #-1 0; value 1]", "((* int int)) int [1 int := get #4294967296 0; value 1]",
				"((-> int int)) int [1 int := get #0 0; value 1]", "((ref int)) int [1 int := get #0 0; value 1]", "((* int int)) int [1 int := get; value 1]", "((* int int)) int [1 int := get 0 0; value 1]"}},
		{[]string{"(int) int [1 int := call .0 (int) 0; value 1]", "((* v1 bool)) v1 [1 v1 := call .1 (v1 bool) 0; value 1]", "(v0) v0 [1 v0 := call .2 (v0 int) 0; value 1]"},
			[]string{"(int) int [1 int := call .4 0; value 1]", "(int) int [1 int := call .-1 0; value 1]", "(int) int [1 int := call .0 0; value 1]", "(int) int [1 int := call .0 (int int) 0; value 1]",
				"(int) int [1 int := call .0 (bool) 0; value 1]", "(int) bool [1 bool := call .0 (int) 0; value 1]", "(int) int [1 int := call .0 (int); value 1]", "(int) int [1 int := call .0 (int) 0 0; value 1]",
				"(int) int [1 int := call .0 (v2) 0; value 1]", "((* int int)) int [1 int := call .1 (int v2) 0; value 1]", "((* v1 bool)) v1 [1 v1 := call .1 (bool v1) 0; value 1]",
				"(int) int [1 int := call .0 #1 (int) 0; value 1]"}},
		{[]string{"(v0) (-> int v0) [2 (-> int v0) := fn [bind 1; value 0]; value 2]", "() (-> v0 v0) [2 (-> v0 v0) := fn [bind 1; value 1]; value 2]"},
			[]string{"(v0) (-> int int) [2 (-> int int) := fn [bind 1; value 0]; value 2]", "(int) (-> int int) [2 (-> int int) := fn [value 0]; value 2]", "(int) (-> int int) [3 (-> int int) := fn [bind 1 2; value 0]; value 3]",
				"(int) (* int int) [2 (* int int) := fn [bind 1; value 0]; value 2]", "(int) (-> int int) [2 (-> int int) := fn; value 2]", "(int) (-> int int) [3 (-> int int) := fn [bind 1; value 0] [bind 2; value 0]; value 3]",
				"(int) (-> int int) [2 (-> int int) := fn 0 [bind 1; value 0]; value 2]", "(int) (-> int int) [2 (-> int int) := fn [exn 1; bind 1; value 0]; value 2]"}},
		{[]string{"((-> int v0) int) v0 [2 v0 := apply 0 1; value 2]"},
			[]string{"((-> int v0) int) int [2 int := apply 0 1; value 2]", "((-> bool v0) int) v0 [2 v0 := apply 0 1; value 2]", "((* int int) int) int [2 int := apply 0 1; value 2]", "((-> int int) int) int [2 int := apply 0; value 2]",
				"((-> int int) int) int [2 int := apply 0 1 1; value 2]"}},
		{[]string{"(v0) (ref v0) [1 (ref v0) := ref 0; value 1]"},
			[]string{"(v0) (array v0) [1 (array v0) := ref 0; value 1]", "(v0) (ref v1) [1 (ref v1) := ref 0; value 1]", "(v0) (ref v0) [1 (ref v0) := ref 0 0; value 1]"}},
		{[]string{"((ref v0)) v0 [1 v0 := deref 0; value 1]"},
			[]string{"((ref v0)) v1 [1 v1 := deref 0; value 1]", "((array v0)) v0 [1 v0 := deref 0; value 1]", "(v0) v0 [1 v0 := deref 0; value 1]"}},
		{[]string{"((ref v0) v0) unit [2 unit := set 0 1; value 2]"},
			[]string{"((ref v0) v1) unit [2 unit := set 0 1; value 2]", "((ref v0) v0) v0 [2 v0 := set 0 1; value 2]", "((array v0) v0) unit [2 unit := set 0 1; value 2]", "((ref int) int) unit [2 unit := set 0 1 1; value 2]"}},
		{[]string{"(int v0) (array v0) [2 (array v0) := array 0 1; value 2]"},
			[]string{"(bool v0) (array v0) [2 (array v0) := array 0 1; value 2]", "(int v0) (array v1) [2 (array v1) := array 0 1; value 2]", "(int v0) (ref v0) [2 (ref v0) := array 0 1; value 2]", "(int v0) (array v0) [2 (array v0) := array 1 0; value 2]"}},
		{[]string{"((array v0) int) v0 [2 v0 := at 0 1; value 2]"},
			[]string{"((array v0) int) int [2 int := at 0 1; value 2]", "((array v0) bool) v0 [2 v0 := at 0 1; value 2]", "((ref v0) int) v0 [2 v0 := at 0 1; value 2]", "((array int) int) int [2 int := at 0; value 2]"}},
		{[]string{"((array v0) int v0) unit [3 unit := put 0 1 2; value 3]"},
			[]string{"((array v0) int v1) unit [3 unit := put 0 1 2; value 3]", "((array v0) bool v0) unit [3 unit := put 0 1 2; value 3]", "((array v0) int v0) v0 [3 v0 := put 0 1 2; value 3]", "((ref v0) int v0) unit [3 unit := put 0 1 2; value 3]",
				"((array int) int int) unit [3 unit := put 0 1; value 3]", "((array int) int int) unit [3 unit := put 0 1 2 2; value 3]"}},
		{[]string{"((array v0)) int [1 int := len 0; value 1]"},
			[]string{"((array v0)) v0 [1 v0 := len 0; value 1]", "((ref v0)) int [1 int := len 0; value 1]", "((d0 v0)) int [1 int := len 0; value 1]"}},
		{[]string{"(int) v0 [1 v0 := raise .4 0; value 1]", "(int) (-> int v1) [1 (-> int v1) := raise .0 0; value 1]"},
			[]string{"(bool) v0 [1 v0 := raise .4 0; value 1]", "(int) v0 [1 v0 := raise .5 0; value 1]", "(int) v0 [1 v0 := raise .-1 0; value 1]", "(int) v0 [1 v0 := raise .0; value 1]", "(int) v2 [1 v2 := raise .0 0; value 1]",
				"(int) v0 [1 v0 := raise .0 0 0; value 1]"}},
		{[]string{"(int) unit [1 unit := print 0; value 1]"},
			[]string{"(bool) unit [1 unit := print 0; value 1]", "(int) int [1 int := print 0; value 1]", "() unit [1 unit := print; value 1]"}},
		{[]string{"(int int) int [2 int := add 0 1; 3 int := sub 1 0; 4 int := mul 2 3; 5 int := div 4 0; 6 int := mod 5 5; value 6]"},
			[]string{"(int int) bool [2 bool := add 0 1; value 2]", "(int bool) int [2 int := sub 0 1; value 2]", "(bool int) int [2 int := mul 0 1; value 2]", "(int) int [2 int := div 0; value 2]", "(int) int [2 int := mod 0 0 0; value 2]",
				"(int) int [2 int := add 0 0 .1; value 2]", "(int) int [2 int := add 0 0 #1; value 2]"}},
		{[]string{"(int int) bool [2 bool := eq 0 1; 3 bool := less 0 1; value 3]"},
			[]string{"(int int) int [2 int := eq 0 1; value 2]", "(int int) int [2 int := less 0 1; value 2]", "(bool bool) bool [2 bool := eq 0 1; value 2]", "(int bool) bool [2 bool := less 0 1; value 2]"}},
	} {
		checkFunctions(t, api.OK, twoVars(r.right)...)
		checkFunctions(t, api.ErrFlat, twoVars(r.wrong)...)
	}
}

// twoVars gives two type variables to functions.
func twoVars(functions []string) []string {
	var out []string
	for _, f := range functions {
		out = append(out, "2 "+f)
	}
	return out
}

// TestBlocks: what the steps with blocks have.
func TestBlocks(t *testing.T) {
	checkFunctions(t, api.OK, twoVars([]string{
		"(bool v0) v0 [2 v0 := if 0 [value 1] [3 v0 := call .0 (v0) 1; value 3]; value 2]",
		"((d0 v0) v0) v0 [5 v0 := case 0 [value 1] [bind 3 4; value 3]; value 5]",
		"((d1)) int [1 int := int; 5 int := case 0 [value 1] [value 1] [2 int := int #5; value 2]; value 5]",
		"((d3 v1)) (d3 (* v1 v1)) [5 (d3 (* v1 v1)) := case 0 [1 (d3 (* v1 v1)) := make .0; value 1] [bind 3 4; value 4]; value 5]",
		"(int bool) bool [9 bool := handle [value 0] [bind 2; value 1] [exn 4; bind 3; value 1] [bind 4; value 1] [exn 3; bind 5; 6 bool := eq 5 0; value 6]; value 9]",
		"(v0) v0 [9 v0 := handle [value 0] [bind 2; value 2]; value 9]",
	})...)
	checkFunctions(t, api.ErrFlat, twoVars([]string{
		"(bool v0) v0 [2 v0 := if 0 [value 1] [value 0]; value 2]",
		"(bool v0) v0 [2 v0 := if 0 [value 0] [value 1]; value 2]",
		"(int v0) v0 [2 v0 := if 0 [value 1] [value 1]; value 2]",
		"(bool v0) v0 [2 v0 := if 0 [value 1]; value 2]",
		"(bool v0) v0 [2 v0 := if 0 [value 1] [value 1] [value 1]; value 2]",
		"(bool v0) v0 [2 v0 := if [value 1] [value 1]; value 2]",
		"(bool v0) v0 [2 v0 := if 0 0 [value 1] [value 1]; value 2]",
		"(bool v0) v0 [2 v0 := if 0 [bind 3; value 1] [value 1]; value 2]",
		"(bool v0) v0 [2 v0 := if 0 [value 1] [bind 3; value 1]; value 2]",
		"(bool v0) v0 [2 v0 := if 0 [value 1] [exn 1; value 1]; value 2]",
		"(bool v0) v0 [2 v0 := if 0 .1 [value 1] [value 1]; value 2]",
		"((d0 v0) v0) v0 [5 v0 := case 0 [value 1]; value 5]",
		"((d0 v0) v0) v0 [5 v0 := case 0 [value 1] [bind 3 4; value 3] [value 1]; value 5]",
		"((d0 v0) v0) v0 [5 v0 := case 0 [value 1] [bind 3; value 3]; value 5]",
		"((d0 v0) v0) v0 [5 v0 := case 0 [bind 2; value 1] [bind 3 4; value 3]; value 5]",
		"((d0 v0) v0) v0 [5 v0 := case 0 [value 1] [bind 3 4; value 4]; value 5]",
		"((d0 v0) v0) v0 [5 v0 := case 0 [value 1] [exn 1; bind 3 4; value 3]; value 5]",
		"((d0 v0) v0) v1 [5 v1 := case 0 [value 1] [bind 3 4; value 3]; value 5]",
		"(v0 v0) v0 [5 v0 := case 0 [value 1] [bind 3 4; value 3]; value 5]",
		"((ref v0) v0) v0 [5 v0 := case 0 [value 1]; value 5]",
		"((d3 v1)) (d3 v1) [5 (d3 v1) := case 0 [1 (d3 v1) := make .0; value 1] [bind 3 4; value 4]; value 5]",
		"(int) int [9 int := handle [value 0]; value 9]",
		"(int) int [9 int := handle; value 9]",
		"(int) int [9 int := handle 0 [value 0] [bind 2; value 0]; value 9]",
		"(int) int [9 int := handle [bind 1; value 0] [bind 2; value 0]; value 9]",
		"(int) int [9 int := handle [exn 1; value 0] [bind 2; value 0]; value 9]",
		"(int) int [9 int := handle [value 0] [value 0]; value 9]",
		"(int) int [9 int := handle [value 0] [bind 2 3; value 0]; value 9]",
		"(int) int [9 int := handle [value 0] [exn 1; bind 2; value 0]; value 9]",
		"(int bool) int [9 int := handle [value 1] [bind 2; value 2]; value 9]",
		"(int bool) int [9 int := handle [value 0] [bind 2; value 1]; value 9]",
		"(int bool) int [9 int := handle [value 0] [bind 2; value 2] [bind 3; value 1]; value 9]",
		"(int) int [9 int := handle [value 0] [bind 2; value 2] [value 0]; value 9]",
		"(int) int [9 int := handle [value 0] [bind 2; value 2] [bind 3 4; value 0]; value 9]",
		"(int) int [9 int := handle [value 0] [bind 2; value 2] [exn 5; bind 3; value 3]; value 9]",
		"(int) int [9 int := handle [value 0] [bind 2; value 2] [exn -1; bind 3; value 3]; value 9]",
		"(int) int [9 int := handle [value 0] [bind 2; value 2] [exn 1; bind 3; value 3] [exn 1; bind 4; value 4]; value 9]",
		"(v0) v0 [9 v0 := handle [value 0] [bind 2; value 2] [exn 1; bind 3; value 3]; value 9]",
	})...)
}

// TestVariables: each is bound once, and used where it is in scope.
func TestVariables(t *testing.T) {
	checkFunctions(t, api.OK,
		"(int) int [16383 int := int; 1 int := add 16383 0; value 1]",
		"() (-> int (-> int int)) [5 (-> int (-> int int)) := fn [bind 1; 2 int := int; 4 (-> int int) := fn [bind 3; 6 int := add 1 2; 7 int := add 6 3; value 7]; value 4]; value 5]",
		"(bool) int [9 int := if 0 [1 int := int; value 1] [2 int := int; value 2]; value 9]",
	)
	checkFunctions(t, api.ErrFlat,
		"(int) int [16384 int := int; value 16384]",
		"(bool) int [2 int := if 0 [1 int := int; value 1] [3 int := raise .0 4; value 3]; value 2]",
		"(int) int [-1 int := int; value -1]",
		"() int [value 0]",
		"() int [value -1]",
		"(int) int [value 1]",
		"(int) int [1 int := add 1 0; value 1]",
		"(int) int [1 int := add 2 0; 2 int := int; value 1]",
		"(int) int [0 int := int; value 0]",
		"() int [1 int := int; 1 int := int; value 1]",
		"(bool) int [9 int := if 0 [1 int := int; value 1] [1 int := int; value 1]; value 9]",
		"(bool) int [9 int := if 0 [1 int := int; value 1] [2 int := add 1 1; value 2]; value 9]",
		"(bool) int [9 int := if 0 [1 int := int; value 1] [value 1]; value 9]",
		"(bool) int [1 int := int; 9 int := if 0 [value 1] [value 9]; value 9]",
		"(bool) int [9 int := if 0 [9 int := int; value 9] [2 int := int; value 2]; value 9]",
		"(bool) int [9 int := if 0 [1 int := int; value 1] [2 int := int; value 2]; value 1]",
		"(bool) int [9 int := if 0 [1 int := int; value 1] [2 int := int; value 2]; 1 int := int; value 9]",
		"(int) (-> int int) [2 (-> int int) := fn [bind 0; value 0]; value 2]",
		"(int) (-> int int) [2 (-> int int) := fn [bind 16384; value 0]; value 2]",
		"(int) int [2 (-> int int) := fn [bind 1; value 0]; value 1]",
		"(int) int [2 (-> int int) := fn [bind 1; 3 int := apply 2 1; value 3]; value 0]",
		"((d0 int)) int [1 int := int; 5 int := case 0 [value 1] [bind 3 3; value 3]; value 5]",
		"((d0 int)) int [1 int := int; 5 int := case 0 [value 1] [bind 1 3; value 3]; value 5]",
		"((d0 int)) int [5 int := case 0 [value 3] [bind 3 4; value 3]; value 5]",
		"(int) int [9 int := handle [1 int := int; value 1] [bind 2; value 1]; value 9]",
		"(int) int [9 int := handle [value 0] [bind 2; value 2] [bind 3; value 2]; value 9]",
	)
}

// TestDeclarations: what stands outside of bodies.
func TestDeclarations(t *testing.T) {
	for text, want := range map[string]api.Errno{
		"data a 0 = A;": api.OK,
		"data a 2 = A v1 v0 | A (d0 int (ref v1));": api.OK,
		"data a 0 = A; data a 1 = A (d0) (d1 v0);":  api.OK,
		"data a 0;":                                              api.ErrFlat,
		"data a 0 = A v0;":                                       api.ErrFlat,
		"data a 2 = A v2;":                                       api.ErrFlat,
		"data a 2 = A v-1;":                                      api.ErrFlat,
		"data a 0 = A (d1); data b 0 = B;":                       api.ErrFlat,
		"data a 1 = A (d0);":                                     api.ErrFlat,
		"data a 1 = A (d0 int int);":                             api.ErrFlat,
		"data a 1 = A (d-1 int);":                                api.ErrFlat,
		"data a 0 = A (int int);":                                api.ErrFlat,
		"data a 0 = A (* int);":                                  api.ErrFlat,
		"data a 0 = A (*);":                                      api.ErrFlat,
		"data a 0 = A (-> int);":                                 api.ErrFlat,
		"data a 0 = A (-> int int int);":                         api.ErrFlat,
		"data a 0 = A (ref);":                                    api.ErrFlat,
		"data a 0 = A (ref int int);":                            api.ErrFlat,
		"data a 0 = A (array int int);":                          api.ErrFlat,
		"data a 0 = A (array (array (bool int)));":               api.ErrFlat,
		"data a 0 = A (ref int @1);":                             api.ErrFlat,
		"data a 0 = A (d0 {0});":                                 api.ErrFlat,
		"data a 0 = A (-> int int {e0});":                        api.ErrFlat,
		"data a 1 = A (v0 int);":                                 api.ErrFlat,
		"fun f 16384 (v16383) v0 [1 v0 := raise .0 2; value 1];": api.ErrFlat,
		"fun f 16384 (v16383) v16383 [value 0];":                 api.OK,
		"fun f 16385 (v16383) v16383 [value 0];":                 api.ErrFlat,
		"fun f -1 (int) int [value 0];":                          api.ErrFlat,
		"fun f 0 1 (int) int [value 0];":                         api.ErrFlat,
		"fun f 0 0 1 (int) int [value 0];":                       api.ErrFlat,
		"fun f {0} (int) int [value 0];":                         api.ErrFlat,
		"fun f {e0} (int) int [value 0];":                        api.ErrFlat,
		"fun f 1 (v1) int [1 int := int; value 1];":              api.ErrFlat,
		"fun f 1 (v0 v1) v0 [value 0];":                          api.ErrFlat,
		"fun f (int) v0 [1 v0 := raise .0 0; value 1];":          api.ErrFlat,
		"fun f (int) bool [value 0];":                            api.ErrFlat,
		"fun f (int) int [exn 1; value 0];":                      api.ErrFlat,
		"fun f (int) int [bind 1; value 0];":                     api.ErrFlat,
		"fun f (int) int [1 v0 := raise .0 0; value 0];":         api.ErrFlat,
		"fun f (int) int [1 (ref int @2) := ref 0; value 0];":    api.ErrFlat,
		"fun f (int) int [1 (ref int) := ref 0 @2; value 0];":    api.ErrFlat,
		"fun f (int) int [new @2; value 0];":                     api.ErrFlat,
		"fun f (int) int [end @0; value 0];":                     api.ErrFlat,
	} {
		checkValid(t, text+someMain, want)
	}
}

// TestMains: Main is a function of at most four ints that gives an int.
func TestMains(t *testing.T) {
	checkValid(t, "fun main () int [0 int := int; value 0]", api.OK)
	checkValid(t, "fun main (int int int int) int [value 3]", api.OK)
	checkValid(t, "fun main (int int int int int) int [value 3]", api.ErrFlat)
	checkValid(t, "fun main (int bool) int [value 0]", api.ErrFlat)
	checkValid(t, "fun main (bool) bool [value 0]", api.ErrFlat)
	checkValid(t, "fun main () unit [0 unit := unit; value 0]", api.ErrFlat)
	checkValid(t, "fun main 1 (int) int [value 0]", api.ErrFlat)
	p := samples.Program("fun main (int) int [value 0]; fun other (bool) bool [value 0]")
	for main, want := range map[int]api.Errno{0: api.OK, 1: api.ErrFlat, 2: api.ErrFlat, -1: api.ErrFlat} {
		p.Main = main
		if got := flat.Valid(p); got != want {
			t.Errorf("Main %d: %d", main, got)
		}
	}
	if got := flat.Valid(api.Program{}); got != api.ErrFlat {
		t.Errorf("the zero program: %d", got)
	}
}

// TestExceptions: the first three are those that every program has, the others have any names.
func TestExceptions(t *testing.T) {
	p := samples.Program(someMain)
	for _, c := range []struct {
		exns []string
		want api.Errno
	}{
		{[]string{"Div", "Index", "Size"}, api.OK},
		{[]string{"Div", "Index", "Size", "", "Div", "x y"}, api.OK},
		{[]string{"Div", "Index"}, api.ErrFlat},
		{[]string{"Index", "Div", "Size"}, api.ErrFlat},
		{[]string{"Div", "Size", "Index"}, api.ErrFlat},
		{[]string{"Div", "Index", "size"}, api.ErrFlat},
		{nil, api.ErrFlat},
	} {
		p.Exns = c.exns
		if got := flat.Valid(p); got != c.want {
			t.Errorf("%q: %d", c.exns, got)
		}
	}
}

// TestAnyNames: names are any texts, and units any numbers.
func TestAnyNames(t *testing.T) {
	p := samples.Program(library + someMain)
	for i := range p.Funs {
		p.Funs[i].Name, p.Funs[i].Unit = "", -1-i
	}
	for i := range p.Datas {
		p.Datas[i].Name = "("
		for j := range p.Datas[i].Cons {
			p.Datas[i].Cons[j].Name = "x"
		}
		for j := range p.Datas[i].Vars {
			p.Datas[i].Vars[j] = ""
		}
	}
	if got := flat.Valid(p); got != api.OK {
		t.Errorf("%d", got)
	}
}
