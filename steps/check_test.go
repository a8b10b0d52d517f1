package steps_test

import (
	"testing"

	"heriot/api"
	"heriot/samples"
)

// TestExamples: the chapter's examples, and DOC.md's of a region program.
func TestExamples(t *testing.T) {
	t.Parallel()
	for _, c := range []struct {
		main string
		e    api.Errno
		path []int
	}{
		{"() int [0 int := int #1; value 0]", api.OK, nil},
		{"() int [new @0; 0 int := int #1; value 0]", api.ErrLeft, nil},
		{"() int [new @0; end @0; end @0; 0 int := int #1; value 0]", api.ErrLive, []int{2}},
		{"() int [new @0; new @0; 0 int := int #1; value 0]", api.ErrScope, []int{1}},
		{"() int [new @0; 1 (* int int @0) := tuple 2 2 @0; end @0; value 1]", api.ErrScope, []int{1}},
		{"() int [new @0; 0 int := int #1; 1 (-> int int @0 {0}) := fn @0 [bind 2; end @0; value 2]; end @0; value 0]", api.ErrMode, []int{2, 0, 0}},
		{"() int [new @0; new @1; 0 int := int #1; 1 (-> int int @1 {0}) := fn @1 [bind 2; end @0; value 2]; end @0; end @1; value 0]", api.ErrMode, []int{3, 0, 0}},
		{"() int [new @0; 0 int := handle {0} [end @0; 1 int := int #1; value 1] [bind 2; value 2]; end @0; value 0]", api.ErrKeep, []int{1, 0, 0}},
		{"() int [new @0; 0 bool := bool #1; 1 int := if 0 [2 int := int #1; end @0; value 2] [3 int := int #2; value 3]; value 1]", api.ErrJoin, []int{2}},
		{"(int) int [new @0; 1 (* int int @0) := tuple 0 0 @0; 2 int := get #0 1; end @0; value 2]", api.OK, nil},
		{"(int) int [new @0; 1 (* int int @0) := tuple 0 0 @0; end @0; 2 int := get #0 1; value 2]", api.ErrLive, []int{3}},
	} {
		checkIs(t, samples.Program("fun main 0 0 0 {} "+c.main), c.e, api.Spot{Path: c.path})
	}
	list := "data list 1 = Nil | Cons v0 (d0 v0 @0 {e0}); fun one 0 1 0 {0} (int) (d0 int @0) "
	for _, c := range []struct {
		one  string
		e    api.Errno
		path []int
	}{
		{"[1 (d0 int @0) := make .0; 2 (d0 int @0) := make .1 0 1 @0; end @0; value 2]", api.OK, nil},
		{"[1 (d0 int @0) := make .0; 2 (d0 int @0) := make .1 0 1 @0; value 2]", api.ErrLeft, nil},
		{"[1 (d0 int @0) := make .0; end @0; 2 (d0 int @0) := make .1 0 1 @0; value 2]", api.ErrLive, []int{2}},
	} {
		checkIs(t, samples.Program(list+c.one+"; "+someMain), c.e, api.Spot{Path: c.path})
	}
}

// TestScope: ErrScope.
func TestScope(t *testing.T) {
	t.Parallel()
	inMainIs(t, "new @0; 1 (* int int @0) := tuple 0 0 @0; end @0; value 0", api.OK)
	inMainIs(t, "1 int := add 0 2; value 1", api.ErrScope, 0)
	inMainIs(t, "1 int := add 0 1; value 1", api.ErrScope, 0)
	inMainIs(t, "1 bool := less 0 0; 2 int := if 1 [3 int := int #1; value 3] [value 3]; value 2", api.ErrScope, 1, 1)
	inMainIs(t, "1 bool := less 0 0; 2 int := if 1 [3 int := int #1; value 3] [4 int := add 3 3; value 4]; value 2", api.ErrScope, 1, 1, 0)
	inMainIs(t, "1 bool := less 0 0; 2 int := if 1 [value 0] [value 2]; value 2", api.ErrScope, 1, 1)
	inMainIs(t, "value 1", api.ErrScope)
	// What is bound twice.
	inMainIs(t, "0 int := int #1; value 0", api.ErrScope, 0)
	inMainIs(t, "1 int := int #1; 1 int := int #1; value 0", api.ErrScope, 1)
	inMainIs(t, "1 bool := less 0 0; 2 int := if 1 [2 int := int #1; value 0] [value 0]; value 0", api.ErrScope, 1, 0, 0)
	inMainIs(t, "1 bool := less 0 0; 2 int := if 1 [3 int := int #1; value 0] [3 int := int #1; value 0]; value 0", api.ErrScope, 1, 1, 0)
	inMainIs(t, "1 int := handle [value 0] [bind 1; value 0]; value 0", api.ErrScope, 0)
	inMainIs(t, "1 int := handle [value 0] [bind 2; value 0] [exn 1; bind 2; value 0]; value 0", api.ErrScope, 0)
	inMainIs(t, "1 int := handle [2 int := int #1; value 0] [bind 2; value 0]; value 0", api.ErrScope, 0, 0, 0)
	// Regions.
	inMainIs(t, "end @0; value 0", api.ErrScope, 0)
	inMainIs(t, "1 (* int int @0) := tuple 0 0 @0; value 0", api.ErrScope, 0)
	inMainIs(t, "1 int := handle {0} [value 0] [bind 2; value 0]; value 0", api.ErrScope, 0)
	inMainIs(t, "1 (d0 int @0) := make .0; value 0", api.ErrScope, 0)
	inMainIs(t, "new @0; 1 (d0 int @0 {1}) := make .0; end @0; value 0", api.ErrScope, 1)
	inMainIs(t, "new @0; 1 (d0 int @0 {0}) := make .0; end @0; value 0", api.OK)
	inMainIs(t, "new @0; 1 (d0 int @0 {e0}) := make .0; end @0; value 0", api.ErrScope, 1)
	inMainIs(t, "new @0; 1 (d0 (* int int @1) @0) := make .0; end @0; value 0", api.ErrScope, 1)
	inMainIs(t, "1 (d0 int @0) := call .0 @0 keep 0; value 0", api.ErrScope, 0)
	inMainIs(t, "new @0; 1 (* int int @0) := tuple 0 0 @0; 2 int := call .1 (int v0) @0 keep 1; end @0; value 0", api.ErrScope, 2)
	inMainIs(t, "new @0; 1 (* int int @0) := tuple 0 0 @0; 2 int := call .1 (int (* int int @1)) @0 keep 1; end @0; value 0", api.ErrScope, 2)
	inMainIs(t, "new @0; 1 (-> int int @0) := fn @0 [bind 2; value 2]; 3 int := call .2 {1} @0 keep 1 0; end @0; value 0", api.ErrScope, 2)
	inMainIs(t, "new @0; 1 (-> int int @0) := fn @0 [bind 2; value 2]; 3 int := call .2 {e0} @0 keep 1 0; end @0; value 0", api.ErrScope, 2)
	inMainIs(t, "1 bool := less 0 0; 2 int := if 1 [new @0; end @0; value 0] [new @0; end @0; value 0]; value 0", api.ErrScope, 1, 1, 0)
	inMainIs(t, "1 bool := less 0 0; 2 int := if 1 [new @0; end @0; value 0] [end @0; value 0]; value 0", api.ErrScope, 1, 1, 0)
	inFunIs(t, "0 1 0 {} () int [new @0; 0 int := int #1; value 0]", api.ErrScope, 0)
	inFunIs(t, "1 0 0 {} (v0) int [1 v1 := raise .0 0; value 0]", api.ErrScope, 0)
	inFunIs(t, "0 0 1 {} (int) int [new @0; 1 (-> int int @0 {e0}) := fn @0 [bind 2; value 2]; end @0; value 0]", api.OK)
	inFunIs(t, "0 0 1 {} (int) int [new @0; 1 (-> int int @0 {e1}) := fn @0 [bind 2; value 2]; end @0; value 0]", api.ErrScope, 1)
	// A local is in scope behind its end, in blocks inside, and in lambdas.
	inMainIs(t, "new @0; end @0; 1 bool := less 0 0; 2 int := if 1 [3 (d0 int @0) := make .0; value 0] [value 0]; value 0", api.OK)
	inMainIs(t, "new @0; new @1; end @0; 1 (-> int int @1 {0}) := fn @1 [bind 2; 3 (d0 int @0) := make .0; value 0]; end @1; value 0", api.OK)
}

// TestTypes: ErrType, and ErrBig of what a case binds.
func TestTypes(t *testing.T) {
	t.Parallel()
	two := "new @0; new @1; 1 (* int int @0) := tuple 0 0 @0; "
	ends := " end @0; end @1; value 0"
	inMainIs(t, two+"2 (ref (* int int @0) @1) := ref 1 @1;"+ends, api.OK)
	inMainIs(t, two+"2 (ref (* int int @1) @1) := ref 1 @1;"+ends, api.ErrType, 3)
	inMainIs(t, two+"2 (* int (* int int @0) @1) := tuple 0 1 @1;"+ends, api.OK)
	inMainIs(t, two+"2 (* int (* int int @1) @1) := tuple 0 1 @1;"+ends, api.ErrType, 3)
	inMainIs(t, two+"2 bool := get #1 1;"+ends, api.ErrType, 3)
	inMainIs(t, two+"2 int := get #2 1;"+ends, api.ErrType, 3)
	inMainIs(t, two+"2 int := get #9223372036854775807 1;"+ends, api.ErrType, 3)
	inMainIs(t, two+"2 int := get #0 0;"+ends, api.ErrType, 3)
	inMainIs(t, two+"2 (d0 (* int int @0) @1) := make .0; 3 (d0 (* int int @0) @1) := make .1 1 2 @1;"+ends, api.OK)
	inMainIs(t, two+"2 (d0 (* int int @0) @1) := make .0; 3 (d0 (* int int @0) @0) := make .1 1 2 @0;"+ends, api.ErrType, 4)
	inMainIs(t, two+"2 (d0 (* int int @0) @1 {0}) := make .0; 3 (d0 (* int int @0) @1) := make .1 1 2 @1;"+ends, api.ErrType, 4)
	inMainIs(t, two+"2 (array (* int int @0) @1) := array 0 1 @1; 3 (* int int @0) := at 2 0; 4 unit := put 2 0 1; 5 int := len 2;"+ends, api.OK)
	inMainIs(t, two+"2 (array (* int int @1) @1) := array 0 1 @1;"+ends, api.ErrType, 3)
	inMainIs(t, two+"2 (array (* int int @0) @1) := array 0 1 @1; 3 (* int int @1) := at 2 0;"+ends, api.ErrType, 4)
	inMainIs(t, two+"2 (array (* int int @0) @1) := array 0 1 @1; 3 unit := put 2 0 0;"+ends, api.ErrType, 4)
	inMainIs(t, two+"2 int := call .1 (int int) @0 keep 1;"+ends, api.OK)
	inMainIs(t, two+"2 int := call .1 (int int) @1 keep 1;"+ends, api.ErrType, 3)
	inMainIs(t, two+"2 int := call .1 (int bool) @0 keep 1;"+ends, api.ErrType, 3)
	inMainIs(t, two+"2 (d0 int @0) := call .0 @1 keep 0;"+ends, api.ErrType, 3)
	// Effects at calls: a set, each number once.
	fn := two + "2 (-> int int @1 {0 1}) := fn @1 [bind 3; value 3]; "
	inMainIs(t, fn+"4 int := call .2 {0 1} @1 keep 2 0;"+ends, api.OK)
	inMainIs(t, fn+"4 int := call .2 {0} @1 keep 2 0;"+ends, api.ErrType, 4)
	inMainIs(t, fn+"4 int := call .2 {} @1 keep 2 0;"+ends, api.ErrType, 4)
	inMainIs(t, fn+"4 int := apply 2 0;"+ends, api.OK)
	inMainIs(t, fn+"4 bool := apply 2 0;"+ends, api.ErrType, 4)
	inMainIs(t, fn+"4 int := apply 2 1;"+ends, api.ErrType, 4)
	inMainIs(t, fn+"4 int := apply 0 0;"+ends, api.ErrType, 4)
	mixed := "fun g 0 2 2 {} ((-> int int @0 {0 1 e0 e1})) int [1 int := int #1; value 1]; fun main (int) int ["
	for effects, want := range map[string]api.Errno{"{} {}": api.OK, "{0} {1}": api.OK, "{0 1} {0}": api.OK, "{2} {}": api.ErrType} {
		text := "new @0; new @1; new @2; 1 (-> int int @0 {0 1}) := fn @0 [bind 2; value 2]; 3 int := call .3 " + effects + " @0 @1 1; end @0; end @1; end @2; value 0]"
		at := api.Spot{}
		if want != api.OK {
			at = api.Spot{Fun: 4, Path: []int{4}}
		}
		checkIs(t, samples.Program(library+mixed+text), want, at)
	}
	// Values of blocks.
	inMainIs(t, "1 bool := less 0 0; 2 int := if 1 [value 0] [value 1]; value 2", api.ErrType, 1, 1)
	inMainIs(t, "1 bool := less 0 0; 2 int := if 0 [value 0] [value 0]; value 2", api.ErrType, 1)
	inMainIs(t, "1 bool := less 0 0; value 1", api.ErrType)
	inMainIs(t, "1 int := handle [2 bool := less 0 0; value 2] [bind 3; value 3]; value 1", api.ErrType, 0, 1)
	inMainIs(t, "1 int := handle [2 bool := less 0 0; value 2] [bind 3; value 0] [exn 1; bind 4; value 4]; value 1", api.OK)
	inMainIs(t, "new @0; 1 (-> int bool @0) := fn @0 [bind 2; value 2]; end @0; value 0", api.ErrType, 1, 0)
	// Cases.
	inMainIs(t, "1 (d1) := make .1; 2 int := case 1 [value 0] [value 0]; value 2", api.ErrScope, 0)
	inMainIs(t, "new @0; 1 (d1 @0) := make .1; 2 int := case 1 [value 0] [value 0]; end @0; value 2", api.ErrType, 2)
	inMainIs(t, "new @0; 1 (d1 @0) := make .1; 2 int := case 1 [value 0] [value 0] [value 0]; end @0; value 2", api.OK)
	inMainIs(t, "new @0; 1 (d1 @0) := make .1; 2 int := case 1 [value 0] [bind 3; value 0] [value 0]; end @0; value 2", api.ErrType, 2)
	inMainIs(t, "new @0; 1 int := case 0 [value 0]; end @0; value 1", api.ErrType, 1)
	inMainIs(t, two+"2 (d0 (* int int @0) @1 {0}) := make .0; 3 int := case 2 [value 0] [bind 4 5; 6 int := get #0 4; 7 (d0 (* int int @0) @1 {0}) := make .1 4 5 @1; value 6];"+ends, api.OK)
	inMainIs(t, two+"2 (d0 (* int int @0) @1 {0}) := make .0; 3 int := case 2 [value 0] [bind 4 5; 6 (d0 (* int int @0) @1) := make .1 4 5 @1; value 0];"+ends, api.ErrType, 4, 1, 0)
}

// TestResult: ErrResult.
func TestResult(t *testing.T) {
	t.Parallel()
	inMainIs(t, "1 bool := less 0 0; 2 (* int int @0) := if 1 [value 0] [value 0]; value 0", api.ErrScope, 1)
	inMainIs(t, "1 int := handle [new @0; 2 (* int int @0) := tuple 0 0 @0; end @0; value 2] [bind 3; value 0]; value 1", api.ErrResult, 0, 0)
	inMainIs(t, "new @0; 1 int := handle {} [2 (* int int @0) := tuple 0 0 @0; end @0; value 2] [bind 3; value 0]; value 1", api.OK)
	inMainIs(t, "1 int := handle [new @0; 2 (d0 int @0) := make .0; end @0; value 2] [bind 3; value 0]; value 1", api.ErrResult, 0, 0)
	inMainIs(t, "new @1; 1 int := handle [new @0; 2 (d0 int @1 {0}) := make .0; end @0; end @1; value 2] [bind 3; value 0]; value 1", api.ErrResult, 1, 0)
	inMainIs(t, "new @1; 1 int := handle [new @0; 2 (d0 (ref int @0) @1) := make .0; end @0; end @1; value 2] [bind 3; value 0]; value 1", api.ErrResult, 1, 0)
	inMainIs(t, "new @0; 1 (d0 int @0) := make .0; end @0; value 1", api.ErrResult)
	inMainIs(t, "new @0; 1 (-> int int @0) := fn @0 [bind 2; new @1; 3 (d0 int @1) := make .0; end @1; value 3]; end @0; value 0", api.ErrResult, 1, 0)
	inMainIs(t, "1 bool := less 0 0; 2 int := if 1 [new @0; 3 (d0 int @0) := make .0; value 3] [value 0]; value 2", api.ErrResult, 1, 0)
	inMainIs(t, "1 bool := less 0 0; 2 int := if 1 [new @0; 3 (d0 int @0) := make .0; 4 int := if 1 [value 3] [value 0]; end @0; value 0] [value 0]; value 2", api.ErrType, 1, 0, 2, 0)
}

// TestEffect: ErrEffect.
func TestEffect(t *testing.T) {
	t.Parallel()
	inFunIs(t, "0 1 0 {} (int) (* int int @0) [1 (* int int @0) := tuple 0 0 @0; value 1]", api.ErrEffect, 0)
	inFunIs(t, "0 1 0 {0} (int) (* int int @0) [1 (* int int @0) := tuple 0 0 @0; end @0; value 1]", api.OK)
	inFunIs(t, "0 1 0 {} (int) int [end @0; value 0]", api.ErrEffect, 0)
	inFunIs(t, "0 1 0 {} (int) (d0 int @0) [1 (d0 int @0) := make .0; value 1]", api.OK)
	for _, read := range []string{
		"(ref int @0)) int [1 int := deref 0; value 1]", "(array int @0)) int [1 int := len 0; value 1]",
		"(* int int @0)) int [1 int := get #0 0; value 1]", "(d0 int @0)) int [1 int := int #1; 2 int := case 0 [value 1] [bind 3 4; value 3]; value 2]",
		"(-> int int @0)) int [1 int := int #1; 2 int := apply 0 1; value 2]",
	} {
		path := []int{0}
		if len(read) > 55 {
			path = []int{1}
		}
		inFunIs(t, "0 1 0 {} ("+read, api.ErrEffect, path...)
	}
	inFunIs(t, "0 1 0 {} ((ref int @0) int) int [2 unit := set 0 1; value 1]", api.ErrEffect, 0)
	inFunIs(t, "0 1 0 {} ((array int @0) int) int [2 int := at 0 1; value 1]", api.ErrEffect, 0)
	inFunIs(t, "0 1 0 {} ((array int @0) int) int [2 unit := put 0 1 1; value 1]", api.ErrEffect, 0)
	inFunIs(t, "0 1 0 {} (int) int [1 (array int @0) := array 0 0 @0; value 0]", api.ErrEffect, 0)
	inFunIs(t, "0 1 0 {} (int) int [1 (ref int @0) := ref 0 @0; value 0]", api.ErrEffect, 0)
	inFunIs(t, "0 1 0 {} (int) int [1 (-> int int @0) := fn @0 [bind 2; value 2]; value 0]", api.ErrEffect, 0)
	// A case of a data type without fields touches nothing.
	inFunIs(t, "0 1 0 {} ((d1 @0) int) int [2 int := case 0 [value 1] [value 1] [value 1]; value 2]", api.OK)
	// Effects of arrows that are applied, and of callees.
	inFunIs(t, "0 2 1 {0} ((-> int int @0 {e0}) int) int [2 int := apply 0 1; end @0; value 2]", api.ErrEffect, 0)
	inFunIs(t, "0 2 1 {0 e0} ((-> int int @0 {e0}) int) int [2 int := apply 0 1; end @0; value 2]", api.OK)
	inFunIs(t, "0 2 1 {0} ((-> int int @0 {1}) int) int [2 int := apply 0 1; end @0; value 2]", api.ErrEffect, 0)
	inFunIs(t, "0 2 1 {0 1} ((-> int int @0 {1}) int) int [2 int := apply 0 1; end @0; end @1; value 2]", api.OK)
	inFunIs(t, "0 2 1 {0} ((-> int int @0 {1}) int) int [2 int := call .2 {1} @0 last 0 1; value 2]", api.ErrEffect, 0)
	inFunIs(t, "0 2 1 {0 1} ((-> int int @0 {1}) int) int [2 int := call .2 {1} @0 last 0 1; end @1; value 2]", api.OK)
	inFunIs(t, "0 1 1 {0} ((-> int int @0 {e0}) int) int [2 int := call .2 {e0} @0 last 0 1; value 2]", api.ErrEffect, 0)
	inFunIs(t, "0 1 1 {0 e0} ((-> int int @0 {e0}) int) int [2 int := call .2 {e0} @0 last 0 1; value 2]", api.OK)
	// Lambdas.
	inMainIs(t, "new @0; new @1; 1 (-> int int @0) := fn @0 [bind 2; 3 (ref int @1) := ref 2 @1; value 2]; end @0; end @1; value 0", api.ErrEffect, 2, 0, 0)
	inMainIs(t, "new @0; new @1; 1 (-> int int @0 {1}) := fn @0 [bind 2; 3 (ref int @1) := ref 2 @1; value 2]; end @0; end @1; value 0", api.OK)
	inMainIs(t, "new @0; 1 (-> int int @0) := fn @0 [bind 2; new @1; 3 (ref int @1) := ref 2 @1; end @1; value 2]; end @0; value 0", api.OK)
	inFunIs(t, "0 1 1 {0 e0} ((-> int int @0 {e0}) int) int [2 (-> int int @0 {0}) := fn @0 [bind 3; 4 int := apply 0 3; value 4]; end @0; value 1]", api.ErrEffect, 0, 0, 0)
	inFunIs(t, "0 1 1 {0 e0} ((-> int int @0 {e0}) int) int [2 (-> int int @0 {e0}) := fn @0 [bind 3; 4 int := apply 0 3; value 4]; end @0; value 1]", api.ErrEffect, 0, 0, 0)
	inFunIs(t, "0 1 1 {0 e0} ((-> int int @0 {e0}) int) int [2 (-> int int @0 {0 e0}) := fn @0 [bind 3; 4 int := apply 0 3; value 4]; end @0; value 1]", api.OK)
	// What a lambda captures handles of is touched where it is made: by the function, or by the lambda around.
	inFunIs(t, "0 2 0 {0} (int) int [1 (-> int (ref int @1) @0 {1}) := fn @0 [bind 2; 3 (ref int @1) := ref 2 @1; value 3]; end @0; value 0]", api.ErrEffect, 0)
	inFunIs(t, "0 2 0 {0 1} (int) int [1 (-> int (ref int @1) @0 {1}) := fn @0 [bind 2; 3 (ref int @1) := ref 2 @1; value 3]; end @0; end @1; value 0]", api.OK)
	inFunIs(t, "0 2 0 {0} ((ref int @1)) int [1 (-> int int @0 {1}) := fn @0 [bind 2; 3 int := deref 0; value 3]; end @0; 4 int := int #1; value 4]", api.OK)
	inMainIs(t, "new @0; new @1; 1 (-> int (-> int int @0 {1}) @0 {0}) := fn @0 [bind 2; 3 (-> int int @0 {1}) := fn @0 [bind 4; 5 (ref int @1) := ref 4 @1; value 4]; value 3]; end @0; end @1; value 0", api.ErrEffect, 2, 0, 0)
	inMainIs(t, "new @0; new @1; 1 (-> int int @0 {0}) := fn @0 [bind 2; 3 (d0 int @1) := call .0 @1 keep 2; value 2]; end @0; end @1; value 0", api.ErrEffect, 2, 0, 0)
}

// TestLive: ErrLive.
func TestLive(t *testing.T) {
	t.Parallel()
	inMainIs(t, "new @0; 1 (ref int @0) := ref 0 @0; end @0; 2 int := deref 1; value 2", api.ErrLive, 3)
	inMainIs(t, "new @0; end @0; 1 (ref int @0) := ref 0 @0; value 0", api.ErrLive, 2)
	inMainIs(t, "new @0; new @1; 1 (-> int int @0 {1}) := fn @0 [bind 2; value 2]; end @1; 3 int := apply 1 0; end @0; value 0", api.ErrLive, 4)
	inMainIs(t, "new @0; new @1; end @1; 1 (-> int int @0 {1}) := fn @0 [bind 2; 3 (ref int @1) := ref 2 @1; value 2]; end @0; value 0", api.ErrLive, 3)
	inMainIs(t, "new @0; 1 (d0 int @0) := call .0 @0 last 0; 2 int := case 1 [value 0] [bind 3 4; value 3]; value 2", api.ErrLive, 2)
	inMainIs(t, "new @0; 1 (d0 int @0) := call .0 @0 last 0; end @0; value 0", api.ErrLive, 2)
	inFunIs(t, "0 1 0 {0} (int) int [end @0; end @0; value 0]", api.ErrLive, 1)
	inMainIs(t, "new @0; 1 (-> int int @0) := fn @0 [bind 2; new @1; end @1; end @1; value 2]; end @0; value 0", api.ErrLive, 1, 0, 2)
	inMainIs(t, "new @0; 1 (-> int int @0) := fn @0 [bind 2; new @1; end @1; 3 (ref int @1) := ref 2 @1; value 2]; end @0; value 0", api.ErrLive, 1, 0, 2)
	inMainIs(t, "new @0; 1 int := handle {} [end @0; value 0] [bind 2; 3 (ref int @0) := ref 2 @0; value 2]; value 1", api.ErrLive, 1, 1, 0)
	// A lambda whose block names a region that begins nowhere, or elsewhere: the handle that it would capture is not there.
	inMainIs(t, "new @0; 1 (-> int int @0) := fn @0 [bind 2; 3 (ref int @7) := ref 2 @7; value 2]; end @0; value 0", api.ErrLive, 1)
	inMainIs(t, "new @0; 1 (-> int int @0 {0}) := fn @0 [bind 2; 3 (-> int int @0) := fn @0 [bind 4; 5 (ref int @7) := ref 4 @7; value 4]; new @7; end @7; value 2]; end @0; value 0", api.ErrLive, 1, 0, 0)
	inMainIs(t, "new @0; 1 (-> int int @0 {0}) := fn @0 [bind 2; 3 (-> int int @0) := fn @0 [bind 4; 5 (ref int @7) := ref 4 @7; value 4]; value 2]; end @0; new @7; end @7; value 0", api.ErrLive, 1)
}

// TestElsewhere: a lambda whose block names a region ahead of where it begins, in a lambda inside: no handle of that is captured, and it is not in scope.
func TestElsewhere(t *testing.T) {
	t.Parallel()
	inside := "4 (-> int int @0) := fn @0 [bind 5; new @7; end @7; value 5]; "
	inMainIs(t, "new @0; 1 (-> int int @0 {0}) := fn @0 [bind 2; 3 (ref int @7) := ref 2 @7; "+inside+"value 2]; end @0; value 0", api.ErrScope, 1, 0, 0)
	inMainIs(t, "new @0; 1 (-> int int @0 {0}) := fn @0 [bind 2; "+inside+"3 (ref int @7) := ref 2 @7; value 2]; end @0; value 0", api.ErrScope, 1, 0, 1)
	inMainIs(t, "new @0; 1 (-> int int @0 {0}) := fn @0 [bind 2; 3 (ref int @7) := ref 2 @7; value 2]; "+inside+"end @0; value 0", api.ErrLive, 1)
	// A formal is no local, wherever a step would begin it.
	inFunIs(t, "0 1 0 {} (int) int [new @1; 1 (-> int int @1 {0}) := fn @1 [bind 2; new @0; 3 (ref int @0) := ref 2 @0; value 2]; end @1; value 0]", api.ErrEffect, 1)
	inFunIs(t, "0 1 0 {0} (int) int [end @0; new @1; 1 (-> int int @1 {0}) := fn @1 [bind 2; new @0; 3 (ref int @0) := ref 2 @0; value 2]; end @1; value 0]", api.ErrLive, 2)
}

// TestMode: ErrMode.
func TestMode(t *testing.T) {
	t.Parallel()
	g := "fun g 0 2 1 {0} ((ref int @0) (-> int int @1 {e0})) int [2 int := deref 0; end @0; value 2]; fun main (int) int [new @0; new @1; 1 (ref int @0) := ref 0 @0; "
	for _, c := range []struct {
		steps string
		e     api.Errno
		path  []int
	}{
		{"2 (-> int int @1) := fn @1 [bind 3; value 3]; 4 int := call .3 {} @0 @1 last 1 2; end @1; value 4]", api.OK, nil},
		{"2 (-> int int @0) := fn @0 [bind 3; value 3]; 4 int := call .3 {} @0 @0 last 1 2; end @1; value 4]", api.ErrMode, []int{4}},
		{"2 (-> int int @0) := fn @0 [bind 3; value 3]; 4 int := call .3 {} @0 @0 keep 1 2; end @0; end @1; value 4]", api.OK, nil},
		{"2 (-> int int @1 {0}) := fn @1 [bind 3; value 3]; 4 int := call .3 {0} @0 @1 last 1 2; end @1; value 4]", api.ErrMode, []int{4}},
		{"2 (-> int int @1 {0}) := fn @1 [bind 3; value 3]; 4 int := call .3 {0} @0 @1 keep 1 2; end @0; end @1; value 4]", api.OK, nil},
		{"2 (-> int int @1 {0}) := fn @1 [bind 3; 4 int := call .1 (int int) @0 last 9; value 3]; end @0; end @1; value 0]", api.ErrScope, []int{3, 0, 0}},
	} {
		at := api.Spot{}
		if c.e != api.OK {
			at = api.Spot{Fun: 4, Path: c.path}
		}
		checkIs(t, samples.Program(library+g+c.steps), c.e, at)
	}
	inMainIs(t, "new @0; new @1; 1 (* int int @0) := tuple 0 0 @0; 2 (-> int int @1 {0}) := fn @1 [bind 3; 4 int := call .1 (int int) @0 last 1; value 4]; end @0; end @1; value 0", api.ErrMode, 3, 0, 0)
	inMainIs(t, "new @0; new @1; 1 (* int int @0) := tuple 0 0 @0; 2 (-> int int @1 {0}) := fn @1 [bind 3; 4 int := call .1 (int int) @0 keep 1; value 4]; end @0; end @1; value 0", api.OK)
	inFunIs(t, "0 1 0 {0} (int) int [1 (-> int int @0 {0}) := fn @0 [bind 2; end @0; value 2]; end @0; value 0]", api.ErrMode, 0, 0, 0)
	inFunIs(t, "0 1 0 {} (int) int [new @1; 1 (-> int int @1 {0}) := fn @1 [bind 2; end @0; value 2]; end @1; value 0]", api.ErrMode, 1, 0, 0)
}

// TestKeep: ErrKeep.
func TestKeep(t *testing.T) {
	t.Parallel()
	inMainIs(t, "new @0; 1 int := handle {0} [value 0] [bind 2; value 2]; end @0; value 1", api.OK)
	inMainIs(t, "new @0; 1 int := handle {} [value 0] [bind 2; value 2]; end @0; value 1", api.ErrKeep, 1, 0)
	inMainIs(t, "new @0; end @0; 1 int := handle {0} [value 0] [bind 2; value 2]; value 1", api.ErrKeep, 2)
	inMainIs(t, "1 int := handle {} [new @0; value 0] [bind 2; value 2]; value 1", api.ErrKeep, 0, 0)
	inMainIs(t, "new @0; 1 int := handle {0} [2 (d0 int @0) := call .0 @0 last 0; value 0] [bind 3; end @0; value 3]; value 1", api.ErrKeep, 1, 0, 0)
	inMainIs(t, "new @0; 1 int := handle {} [2 (d0 int @0) := call .0 @0 last 0; value 0] [bind 3; value 3]; value 1", api.OK)
	inMainIs(t, "new @0; 1 int := handle {0} [2 int := handle {0} [value 0] [bind 3; end @0; value 3]; value 2] [bind 4; end @0; value 4]; value 1", api.ErrKeep, 1, 0, 0, 1, 0)
	inMainIs(t, "new @0; 1 int := handle {0} [2 int := handle {} [end @0; value 0] [bind 3; value 3]; value 2] [bind 4; end @0; value 4]; value 1", api.ErrKeep, 1, 0, 0, 0, 0)
	inMainIs(t, "new @0; 1 int := handle {0} [value 0] [bind 4; end @0; value 4] [exn 0; bind 5; end @0; value 5]; value 1", api.OK)
	inFunIs(t, "0 1 0 {} (int) int [1 int := handle {0} [value 0] [bind 2; value 2]; value 1]", api.ErrKeep, 0)
	inFunIs(t, "0 1 0 {0} (int) int [1 int := handle {0} [value 0] [bind 2; value 2]; end @0; value 1]", api.OK)
	// A lambda inside has handles of its own, and regions of its own.
	inMainIs(t, "new @0; 1 int := handle {0} [2 (-> int int @0 {0}) := fn @0 [bind 3; new @1; end @1; value 3]; value 0] [bind 4; end @0; value 4]; value 1", api.OK)
	inMainIs(t, "new @0; 1 (-> int int @0 {0}) := fn @0 [bind 2; 3 int := handle {0} [value 2] [bind 4; value 4]; value 3]; end @0; value 0", api.ErrKeep, 1, 0, 0)
}

// TestEnds: ErrJoin and ErrLeft.
func TestEnds(t *testing.T) {
	t.Parallel()
	inMainIs(t, "new @0; 1 bool := less 0 0; 2 int := if 1 [value 0] [end @0; value 0]; value 2", api.ErrJoin, 2)
	inMainIs(t, "new @0; 1 bool := less 0 0; 2 int := if 1 [end @0; value 0] [end @0; value 0]; value 2", api.OK)
	inMainIs(t, "1 bool := less 0 0; 2 int := if 1 [new @0; value 0] [value 0]; value 2", api.ErrJoin, 1)
	inMainIs(t, "new @0; 1 (d1 @0) := make .0; 2 int := case 1 [end @0; value 0] [end @0; value 0] [value 0]; value 2", api.ErrJoin, 2)
	inMainIs(t, "new @0; 1 int := handle {0} [value 0] [bind 2; end @0; value 0] [exn 0; bind 3; value 0]; value 1", api.ErrJoin, 1)
	inMainIs(t, "new @0; 1 int := handle {0} [value 0] [bind 2; value 0] [exn 0; bind 3; value 0] [exn 2; bind 4; end @0; value 0]; value 1", api.ErrJoin, 1)
	// An error in a later block comes ahead of one behind all blocks.
	inMainIs(t, "new @0; 1 (d1 @0) := make .0; 2 int := case 1 [end @0; value 0] [value 0] [value 1]; value 2", api.ErrType, 2, 2)
	// A region that begins in the only block behind which it is live can't be ended.
	inMainIs(t, "1 int := handle {} [value 0] [bind 2; new @0; value 0]; value 1", api.ErrLeft)
	inMainIs(t, "1 int := handle {} [value 0] [bind 2; new @0; value 0]; end @0; value 1", api.ErrScope, 1)
	inMainIs(t, "new @1; 1 int := handle {1} [2 int := handle {1} [value 0] [bind 3; new @0; value 0]; value 2] [bind 4; value 4]; end @1; value 1", api.ErrKeep, 1, 0)
	inMainIs(t, "new @0; value 0", api.ErrLeft)
	inMainIs(t, "new @0; 1 (-> int int @0) := fn @0 [bind 2; new @1; value 2]; end @0; value 0", api.ErrLeft, 1, 0)
	inFunIs(t, "0 2 0 {0 1} (int) int [end @1; value 0]", api.ErrLeft)
	inFunIs(t, "0 2 0 {0} (int) int [end @0; value 0]", api.OK)
}

// TestOrder: of several errors the first one counts.
func TestOrder(t *testing.T) {
	t.Parallel()
	inMainIs(t, "end @0; 1 bool := int #1; value 7", api.ErrShape)
	inMainIs(t, "end @0; 1 bool := add 0 0; value 7", api.ErrScope, 0)
	inMainIs(t, "new @0; end @0; 1 (* int bool @0) := tuple 0 0 @0; value 0", api.ErrType, 2)
	inFunIs(t, "0 1 0 {} (int) int [new @1; end @1; 1 (ref int @0) := ref 0 @0; value 0]", api.ErrEffect, 2)
	inFunIs(t, "0 2 0 {1} (int) int [end @1; 1 (-> int int @0) := fn @0 [bind 2; 3 (ref int @1) := ref 2 @1; value 2]; value 0]", api.ErrEffect, 1)
	inMainIs(t, "new @0; new @1; 1 int := handle {0 1} [end @0; end @0; value 0] [bind 2; value 0]; value 0", api.ErrKeep, 2, 0, 0)
	inMainIs(t, "new @0; 1 int := handle {0} [2 (-> int int @0 {0}) := fn @0 [bind 3; end @0; value 3]; value 0] [bind 4; value 0]; end @0; value 0", api.ErrMode, 1, 0, 0, 0, 0)
	inMainIs(t, "new @0; 1 int := handle {} [new @1; 2 (d0 int @1) := make .0; value 2] [bind 4; value 0]; end @0; value 0", api.ErrResult, 1, 0)
	inMainIs(t, "new @0; 1 (d0 int @0) := make .0; value 1", api.ErrResult)
	inMainIs(t, "new @0; 1 bool := less 0 0; value 1", api.ErrType)
	inMainIs(t, "new @0; 1 bool := less 0 0; value 9", api.ErrScope)
	inMainIs(t, "new @0; 1 (d1 @0) := make .0; 2 int := case 1; end @0; value 0", api.ErrShape)
	// A function ahead, and a step ahead of its blocks.
	p := samples.Program(library + "fun f () int [value 0]; fun main (int) int [value 1]")
	checkIs(t, p, api.ErrScope, api.Spot{Fun: 3})
	inMainIs(t, "1 int := handle {3} [value 7] [bind 2; value 0]; value 0", api.ErrScope, 0)
}
