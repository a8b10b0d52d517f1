package bounds_test

import (
	"testing"

	"heriot/api"
)

// boxHead is that of a function of a box of a pair in region 0 and an int, which may make cells in region 1. In its certificates 0 is the box, 1 the int.
const boxHead = "fun f 0 2 0 {0 1} ((d3 (* int int)) int) int "

// helpers are functions ahead of it: grow adds to a region what its certificate says, idle does nothing, by adds to region 1 as much as its pair has, gives says a closure's cost by an int.
const helpers = `fun grow 0 1 0 {0} (int) int [end @0; value 0]; fun idle 0 0 0 {} (int) int [value 0];
 fun by 0 2 0 {1} ((* int int)) int [1 int := int #0; end @1; value 1]; fun gives 0 1 0 {} (int (-> int int)) (-> int int) [value 1]; `

// momentIs looks at whether a certificate of the function is taken.
func momentIs(t *testing.T, steps, says string, want api.Errno) {
	t.Helper()
	p := program(t, helpers+boxHead+"["+steps+"];"+someMain)
	verifiedIs(t, p, certsOf(p, "grow; peak; growth 2\nidle; peak\nby; peak; growth 1*0\ngives; peak; calls 1*0 1*2\nf; "+says+"\nmain; peak"), want)
}

// TestMoments: at which moments something is asked to be at most what the certificate says. At the end, in the box, there are 2 words and more; ahead of that it is not known that there are so many.
func TestMoments(t *testing.T) {
	const atEnd = "99 int := case 0 [bind 90; end @0; end @1; value 1]; value 99"
	const within = "98 int := case 0 [bind 80; 81 (* int int @1) := tuple 1 1 @1; value 1]; "
	momentIs(t, atEnd, "peak; growth; growth", api.OK)
	// Growth at a cell, at a call, and at the end.
	momentIs(t, "10 (* int int @1) := tuple 1 1 @1; "+atEnd, "peak 2; growth; growth 2", api.OK)
	momentIs(t, "10 (* int int @1) := tuple 1 1 @1; "+atEnd, "peak 2; growth; growth 1*0", api.ErrBound)
	momentIs(t, "10 (* int int @1) := tuple 1 1 @1; "+atEnd, "peak 1*0; growth; growth 2", api.ErrBound)
	momentIs(t, "10 int := call .0 @1 keep 1; "+atEnd, "peak; growth; growth 2", api.OK)
	momentIs(t, "10 int := call .0 @1 keep 1; "+atEnd, "peak; growth; growth 1*0", api.ErrBound)
	momentIs(t, "99 int := case 0 [bind 90; 10 (* int int @1) := tuple 1 1 @1; end @0; end @1; value 1]; value 99", "peak 1*0; growth; growth 1*0", api.OK)
	momentIs(t, "99 int := case 0 [bind 90; 10 int := call .0 @1 keep 1; end @0; end @1; value 1]; value 99", "peak; growth; growth 1*0", api.OK)
	// Behind a block it is not known any more that the box has 2 words: what has grown is looked at where something is added, and at the end.
	momentIs(t, within+atEnd, "peak 1*0; growth; growth 1*0", api.OK)
	momentIs(t, within+"end @0; end @1; value 1", "peak 1*0; growth; growth 1*0", api.ErrBound)
	momentIs(t, within+"end @0; end @1; value 1", "peak 2; growth; growth 2", api.OK)
	momentIs(t, within+"10 (ref int @1) := ref 1 @1; "+atEnd, "peak 3; growth; growth 1*0 1", api.ErrBound)
	momentIs(t, within+"10 (ref int @1) := ref 1 @1; "+atEnd, "peak 3; growth; growth 3", api.OK)
	momentIs(t, within+"10 int := call .1 1; "+atEnd, "peak 2; growth; growth 1*0", api.OK)
	momentIs(t, within+"10 int := call .1 1; "+atEnd, "peak 1*0; growth; growth 1*0", api.ErrBound)
	momentIs(t, within+"new @2; 10 (ref int @2) := ref 1 @2; 11 int := call .0 @2 keep 1; end @2; "+atEnd, "peak 3; growth; growth 1*0", api.OK)
	momentIs(t, within+"new @2; 10 (ref int @2) := ref 1 @2; 11 int := call .0 @2 keep 1; end @2; "+atEnd, "peak 2; growth; growth 1*0", api.ErrBound)
	momentIs(t, within+"new @2; 10 (-> int int @2) := fn @2 [bind 11; value 11]; 12 int := apply 10 1; end @2; "+atEnd, "peak 3; growth; growth 1*0", api.OK)
	momentIs(t, within+"new @2; 10 (-> int int @2 {1}) := fn @2 [bind 11; value 11]; 12 int := apply 10 1; end @2; "+atEnd, "peak 3; growth; growth 1*0", api.ErrBound)
}

// TestEffects: what is added behind a variable, and to a region of others with one of its own.
func TestEffects(t *testing.T) {
	// both adds 2 to a region, and nothing behind its variable; the latter stands for a region of the function's own.
	const both = "fun both 0 1 1 {0 e0} (int) int [end @0; value 0]; "
	const atEnd = "end @2; 99 int := case 0 [bind 90; end @0; end @1; value 1]; value 99"
	p := program(t, both+boxHead+"[new @2; 10 int := call .0 @1 {2} keep 1; "+atEnd+"];"+someMain)
	for growth, want := range map[string]api.Errno{"2": api.OK, "1*0": api.ErrBound} {
		verifiedIs(t, p, certsOf(p, "both; peak; growth 2; behind\nf; peak; growth; growth "+growth+"\nmain; peak"), want)
	}
	// An application adds its cost, the variable 2, behind a variable. In the box it is at most 2 words of these.
	apply := program(t, "fun f 0 2 1 {0 1 e0} ((d3 (* int int)) (-> int int @1 {e0})) int [10 int := int #0; 11 int := apply 1 10; 99 int := case 0 [bind 90; end @0; end @1; value 10]; value 99];"+someMain)
	for behind, want := range map[string]api.Errno{"1*2": api.OK, "1*0.2": api.ErrBound, "1000": api.ErrBound} {
		verifiedIs(t, apply, certsOf(apply, "f; peak 1*2; growth; growth; behind "+behind+"\nmain; peak"), want)
	}
	verifiedIs(t, apply, certsOf(apply, "f; peak; growth; growth; behind 1*2\nmain; peak"), api.ErrBound)
	within := program(t, "fun f 0 2 1 {0 1 e0} ((d3 (* int int)) (-> int int @1 {e0})) int [10 int := int #0; 99 int := case 0 [bind 90; 11 int := apply 1 10; end @0; end @1; value 10]; value 99];"+someMain)
	verifiedIs(t, within, certsOf(within, "f; peak 1*0.2; growth; growth; behind 1*0.2\nmain; peak"), api.OK)
}

// TestPutState: what is put as a sum is put in all that is held, has grown, and costs.
func TestPutState(t *testing.T) {
	const atLeastTwo = "20 int := int #1; 21 bool := less 20 1; 99 int := if 21 [22 (ref int @1) := ref 1 @1; 23 int := int #0; end @0; end @1; value 23] [24 int := int #0; end @0; end @1; value 24]; value 99"
	momentIs(t, "10 (array int @1) := array 1 1 @1; "+atLeastTwo, "peak 2 1*1; growth; growth 2 1*1", api.OK)
	momentIs(t, "10 (array int @1) := array 1 1 @1; "+atLeastTwo, "peak 1 1*1; growth; growth 2 1*1", api.ErrBound)
	momentIs(t, "10 (array int @1) := array 1 1 @1; "+atLeastTwo, "peak 2 1*1; growth; growth 1 1*1", api.ErrBound)
	momentIs(t, "10 (array int @1) := array 1 1 @1; "+atLeastTwo, "peak 1 2*1; growth; growth 1 2*1", api.OK)
	momentIs(t, "new @2; 10 (array int @2) := array 1 1 @2; 20 int := int #1; 21 bool := less 20 1; 99 int := if 21 [22 (ref int @2) := ref 1 @2; 23 int := int #0; end @0; end @1; end @2; value 23] [24 int := int #0; end @0; end @1; end @2; value 24]; value 99", "peak 2 1*1; growth; growth", api.OK)
	// A closure's cost is as great as the int.
	const closure = "new @2; 10 (-> int int @2 {1}) := fn @2 [bind 11; value 11]; 12 (-> int int @2 {1}) := call .3 @2 1 10; "
	const applies = "20 int := int #1; 21 bool := less 20 1; 99 int := if 21 [22 int := apply 12 1; end @0; end @1; end @2; value 22] [24 int := int #0; end @0; end @1; end @2; value 24]; value 99"
	p := program(t, "fun gives 0 1 1 {} (int (-> int int @0 {e0})) (-> int int @0 {e0}) [value 1]; "+boxHead+"["+closure[:len(closure)-len("call .3 @2 1 10; ")]+"call .0 @2 {1} 1 10; "+applies+"];"+someMain)
	for text, want := range map[string]api.Errno{
		"peak 1 1*1; growth; growth 1*1": api.OK,
		"peak 1*1; growth; growth 1*1":   api.ErrBound,
		"peak 1 1*1; growth; growth 1":   api.ErrBound,
		"peak 1000; growth; growth 1*1":  api.ErrBound,
	} {
		verifiedIs(t, p, certsOf(p, "gives; peak; calls 1*0 1*2\nf; "+text+"\nmain; peak"), want)
	}
}

// TestCostsOfBlocks: costs that come out of blocks in which something was put as a sum.
func TestCostsOfBlocks(t *testing.T) {
	// In the block the box has 2 words and the pair's; a closure that makes as much as the pair has costs what the box has without these.
	p := program(t, `fun by 0 2 0 {1} ((* int int)) int [1 int := int #0; end @1; value 1]; fun f 0 2 0 {0 1} ((d3 (* int int)) int) (-> int int @1 {0 1}) [
 2 (-> int int @1 {0 1}) := case 0 [bind 3; 4 (-> int int @1 {0 1}) := fn @1 [bind 5; 6 int := call .0 @0 @1 keep 3; value 6]; value 4]; end @0; end @1; value 2];`+someMain)
	says := func(cost string) []api.Cert {
		return certsOf(p, "by; peak 1*0 3; growth\nf; peak 3; growth; growth 3; calls "+cost+"\nmain; peak")
	}
	isJust(t, p, "1 1*0", says)
	// What an application needed ahead of a block is not less behind it.
	ahead := program(t, `fun by 0 2 0 {1} ((* int int)) int [1 int := int #0; end @1; value 1]; fun f 0 2 0 {0 1} ((d3 (* int int)) int) (-> int int @1 {0 1}) [
 2 (-> int int @1 {0 1}) := fn @1 [bind 3; new @2; 4 (* int int int int @2) := tuple 3 3 3 3 @2; end @2; 5 int := case 0 [bind 6; 7 int := call .0 @0 @1 keep 6; value 7]; value 5]; end @0; end @1; value 2];`+someMain)
	isJust(t, ahead, "4 1*0", func(cost string) []api.Cert {
		return certsOf(ahead, "by; peak 1*0; growth\nf; peak 3; growth; growth 3; calls "+cost+"\nmain; peak")
	})
	// A block with fewer costs: nothing needs the others.
	mainIs(t, "", "new @0; 1 (-> int int) := fn @0 [bind 2; value 2]; 3 (ref (-> int int)) := ref 1 @0; 4 (-> int int) := deref 3; 5 bool := bool #1; 6 (-> int int) := if 5 [value 1] [value 4]; 7 (-> int int) := if 5 [value 4] [value 1]; end @0; value 0", "", "2")
}

// TestToldApart: what is left of a sum is no variable if it stands for several, whether something uses these or not.
func TestToldApart(t *testing.T) {
	// n has at most as much as the list, or the box of an int, and is not below 0. In the block with fields what that has beside its cell is taken from n; where that is at least 1, 1 more than the cell's words are given.
	within := func(data, fields, cell string) api.Program {
		return program(t, "fun s 1 1 0 {} (v0) int [1 int := int #0; value 1]; fun f 0 1 0 {0} ("+data+") int [10 int := int #-1; 11 int := call .0 ("+data+") @0 0; 12 bool := less 10 11; 13 int := int #0; 14 int := int #"+cell+"; 99 int := if 12 [80 int := case 0 [end @0; value 13] "+
			fields+"20 int := sub 11 14; 21 bool := less 13 20; 79 int := if 21 [22 int := int #1; 23 int := add 14 22; end @0; value 23] [end @0; value 13]; value 79]; value 80] [end @0; value 13]; value 99];"+someMain)
	}
	says := func(p api.Program) []api.Cert {
		return certsOf(p, "s; peak; size 1*0\nf; peak; growth; size 1*0\nmain; peak")
	}
	list := within("(d0 int)", "[bind 30 31; ", "3")
	verifiedIs(t, list, says(list), api.ErrBound)
	used := within("(d0 int)", "[bind 30 31; 32 int := call .0 ((d0 int)) @0 31; ", "3")
	verifiedIs(t, used, says(used), api.ErrBound)
	const maybe = "data maybe 0 = No | Yes int; "
	p := readProgram(maybe + "fun s 1 1 0 {} (v0) int [1 int := int #0; value 1]; fun f 0 1 0 {0} ((d0)) int [10 int := int #-1; 11 int := call .0 ((d0)) @0 0; 12 bool := less 10 11; 13 int := int #0; 14 int := int #2; 99 int := if 12 [80 int := case 0 [end @0; value 13] [bind 30; 20 int := sub 11 14; 21 bool := less 13 20; 79 int := if 21 [22 int := int #3; end @0; value 22] [end @0; value 13]; value 79]; value 80] [end @0; value 13]; value 99];" + someMain)
	verifiedIs(t, p, says(p), api.OK)
}
