package bounds_test

import (
	"strings"
	"testing"

	"heriot/api"
)

// TestHandles: what an exception leaves behind.
func TestHandles(t *testing.T) {
	// What was held in a kept region as an exception came is at most what is held at the end of what was tried.
	const tried = "new @0; 9 int := handle {0} [1 (ref int) := ref 0 @0; 2 (* int int) := tuple 0 0 @0; value 0] [bind 3; value 3] [exn 3; bind 4; 5 (* int int int) := tuple 0 0 0 @0; value 4]; "
	mainIs(t, "", tried+"end @0; value 9", "", "6")
	mainIs(t, "", tried+"7 (ref int) := ref 0 @0; end @0; value 9", "", "7")
	mainIs(t, "", strings.Replace(tried, "tuple 0 0 0 @0", "tuple 0 0 0 @0; 6 (ref int) := ref 0 @0", 1)+"end @0; value 9", "", "7")
	// What is not kept has gone in the arms: they hold what they make.
	const given = "new @0; 9 int := handle [1 (ref int) := ref 0 @0; end @0; value 0] [bind 3; value 3] [exn 3; bind 4; new @1; 5 (* int int int @1) := tuple 0 0 0 @1; end @1; value 4]; "
	mainIs(t, "", given+"value 9", "", "3")
	mainIs(t, "", "new @2; 10 (* int int int int @2) := tuple 0 0 0 0 @2; "+strings.Replace(given, "handle [", "handle {2} [", 1)+"end @2; value 9", "", "7")
	// What began in what was tried, and has ended, is not held behind it; in between it is.
	mainIs(t, "", "9 int := handle [new @0; 1 (* int int int int) := tuple 0 0 0 0 @0; end @0; value 0] [bind 3; new @1; 5 (ref int @1) := ref 0 @1; end @1; value 3]; value 9", "", "4")
	// Only one of the blocks behind is gone through.
	mainIs(t, "", "new @0; 9 int := handle {0} [value 0] [bind 3; 1 (ref int) := ref 0 @0; value 3] [exn 3; bind 4; 5 (* int int) := tuple 0 0 @0; value 4] [exn 0; bind 6; 7 (* int int int) := tuple 0 0 0 @0; value 6]; 8 (ref int) := ref 0 @0; end @0; value 9", "", "4")
}

// TestHighs: a callee takes a region; in an arm it has the high that it had, behind what was tried nothing.
func TestHighs(t *testing.T) {
	// In one block of what is tried region 1 has 5 words, in the other one 2.
	const choice = "2 bool := bool #1; 3 int := if 2 [4 (* int int int int int @1) := tuple 0 0 0 0 0 @1; value 0] [5 (* int int @1) := tuple 0 0 @1; value 0]; "
	mainIs(t, "", "new @1; 9 int := handle {1} ["+choice+"value 3] [bind 6; value 6] [exn 3; bind 7; 8 (ref int @1) := ref 0 @1; value 7]; end @1; value 9", "", "6")
	// A box is put as 2 words and more, of which the region grows by the more: with the 4 words that are there ahead that is the box, and 2, when it is put back. But what was there ahead was 4.
	p := program(t, `fun h 0 2 0 {1} ((* int int)) int [1 int := int #0; end @1; value 1]; fun f 0 2 0 {0 1} ((d3 (* int int))) int [1 int := int #0; 2 (* int int int int @1) := tuple 1 1 1 1 @1;
 9 int := handle {0 1} [3 int := case 0 [bind 4; 5 int := call .0 @0 @1 keep 4; value 5]; value 3] [bind 7; value 7] [exn 3; bind 8; 10 (ref int @1) := ref 1 @1; value 8]; end @0; end @1; value 9];`+someMain)
	says := func(peak, growth string) []api.Cert {
		return certsOf(p, "h; peak; growth 1*0\nf; peak "+peak+"; growth; growth "+growth+"\nmain; peak")
	}
	verifiedIs(t, p, says("5 1*0", "5 1*0"), api.OK)
	verifiedIs(t, p, says("4 1*0", "5 1*0"), api.ErrBound)
	verifiedIs(t, p, says("5 1*0", "4 1*0"), api.ErrBound)
	verifiedIs(t, p, says("5 1*0", "5"), api.ErrBound)
}

// TestHandedValue: what Blocks[1] binds is known as the value is, and what an arm binds is not.
func TestHandedValue(t *testing.T) {
	listIs(t, "(d0 int)", "99 (d0 int) := handle {0} [value 0] [bind 10; value 10];", "1*0")
	listIs(t, "(d0 int)", "99 (d0 int) := handle {0} [11 (d0 int) := make .1 1 0 @0; value 11] [bind 10; value 10];", "3 1*0")
	listIs(t, "int", "99 int := handle {0} [11 int := int #7; value 11] [bind 10; 12 int := int #3; 13 int := add 10 12; value 13];", "10")
	listIs(t, "int", "99 int := handle {0} [11 int := int #7; value 11] [bind 10; 12 int := int #3; 13 int := mul 10 12; value 13];", "21")
	listIs(t, "int", "99 int := handle {0} [11 int := int #7; value 11] [bind 10; 12 int := int #3; 13 int := sub 12 10; value 13];", "?")
	listIs(t, "int", "99 int := handle {0} [11 int := int #7; value 11] [bind 10; value 10] [exn 3; bind 12; value 12];", "?")
	listIs(t, "int", "14 int := int #3; 99 int := handle {0} [11 int := int #7; value 11] [bind 10; value 10] [exn 3; bind 12; 13 int := mod 12 14; value 13];", "7")
	// At the end what was tried is not, but the others are.
	endIs(t, "(d0 int)", "99 (d0 int) := handle {0} [11 (d0 int) := case 0 [value 0] [bind 12 13; value 13]; value 11] [bind 10; end @0; value 10] [exn 3; bind 14; 15 (d0 int) := make .0; end @0; value 15];", "1*0")
	endIs(t, "int", "98 int := int #5; 99 int := handle {0} [value 1] [bind 10; 11 bool := less 98 10; 12 int := if 11 [13 int := int #6; end @0; value 13] [14 int := int #0; end @0; value 14]; value 12];", "1*1")
}

// TestHandledCosts: the costs of closures that come through blocks.
func TestHandledCosts(t *testing.T) {
	const one, two = "1 (-> int int {0}) := fn @0 [bind 2; 3 (ref int) := ref 2 @0; value 2]; ", "4 (-> int int {0}) := fn @0 [bind 5; 6 (* int int) := tuple 5 5 @0; value 5]; "
	const apply = "8 int := apply 7 0; end @0; value 8"
	// The closures have 2 words each.
	mainIs(t, "", "new @0; "+one+two+"9 bool := bool #1; 7 (-> int int {0}) := if 9 [value 1] [value 4]; "+apply, "", "6")
	mainIs(t, "", "new @0; "+one+two+"7 (-> int int {0}) := handle {0} [value 4] [bind 10; value 10] [exn 3; bind 11; value 1]; "+apply, "", "6")
	mainIs(t, "", "new @0; "+one+two+"7 (-> int int {0}) := handle {0} [value 4] [bind 10; value 1]; "+apply, "", "5")
	mainIs(t, "", "new @0; "+one+"10 (ref (-> int int {0})) := ref 1 @0; 11 (-> int int {0}) := deref 10; 9 bool := bool #1; 7 (-> int int {0}) := if 9 [value 1] [value 11]; "+apply, "", "?")
	mainIs(t, "", "new @0; 7 (-> int int {0}) := raise .0 0; "+apply, "", "")
	mainIs(t, "", "new @0; "+one+"9 bool := bool #1; 7 (-> int int {0}) := if 9 [value 1] [12 (-> int int {0}) := raise .0 0; value 12]; "+apply, "", "3")
}

// TestLambdas: what an application costs.
func TestLambdas(t *testing.T) {
	fn := func(body, value string) string {
		return "new @0; new @1; 1 (-> int int {0 1}) := fn @0 [bind 2; " + body + " value " + value + "]; 3 int := apply 1 0; 4 (ref int) := ref 0 @0; end @0; end @1; value 3"
	}
	// Behind an application each region of the effect may have grown by its cost.
	mainIs(t, "", fn("", "2"), "", "2")
	mainIs(t, "", fn("5 (ref int) := ref 2 @0;", "2"), "", "5")
	mainIs(t, "", fn("5 (ref int) := ref 2 @0; 6 (* int int @1) := tuple 2 2 @1;", "2"), "", "10")
	mainIs(t, "", fn("new @2; 5 (* int int int int @2) := tuple 2 2 2 2 @2; end @2; 6 (ref int) := ref 2 @0;", "2"), "", "11")
	mainIs(t, "", fn("5 (ref int) := ref 2 @0; new @2; 6 (* int int int int @2) := tuple 2 2 2 2 @2; end @2;", "2"), "", "13")
	mainIs(t, "", fn("5 (array int) := array 2 2 @0;", "2"), "", "8197")
	mainIs(t, "", fn("5 (array int) := array 0 2 @0;", "2"), "", "6 2*0")
	mainIs(t, "", fn("5 int := raise .0 2; 6 (ref int) := ref 2 @0;", "5"), "", "5")
	// Blocks in a lambda are joined, and its cost is that of the one that needs more.
	mainIs(t, "", fn("5 bool := less 2 0; 6 int := if 5 [7 (ref int) := ref 2 @0; value 2] [8 (* int int int @1) := tuple 2 2 2 @1; value 2];", "6"), "", "11")
	mainIs(t, "", fn("6 int := handle [7 (ref int) := ref 2 @0; value 2] [bind 8; 9 (ref int) := ref 2 @0; value 8] [exn 0; bind 10; 11 (* int int) := tuple 2 2 @0; value 10];", "6"), "", "9")
	// A lambda whose walk can't go on has no cost; the walk of the function goes on.
	const unpriced = "new @0; 1 (-> int int) := fn @0 [bind 2; value 2]; 3 (ref (-> int int)) := ref 1 @0; 4 (-> int int {0}) := fn @0 [bind 5; 6 (-> int int) := deref 3; 7 int := apply 6 5; value 7]; "
	mainIs(t, "", unpriced+"8 (ref int) := ref 0 @0; end @0; value 0", "", "5")
	mainIs(t, "", unpriced+"8 int := apply 4 0; end @0; value 0", "", "?")
	const uncertified = "fun f 0 1 0 {0} (int) int [end @0; value 0]; "
	mainIs(t, uncertified, "new @0; 1 (-> int int {0}) := fn @0 [bind 2; 3 int := call .0 @0 keep 2; value 3]; end @0; value 0", "", "2")
	mainIs(t, uncertified, "new @0; 1 (-> int int {0}) := fn @0 [bind 2; 3 int := call .0 @0 keep 2; value 3]; 4 int := apply 1 0; end @0; value 0", "", "?")
	mainIs(t, uncertified, "new @0; 1 (-> int int {0}) := fn @0 [bind 2; 3 int := call .0 @0 keep 2; value 3]; 4 int := apply 1 0; end @0; value 0", "f; peak 9; growth 4", "11")
	// A lambda owns its own regions, and hands them over.
	mainIs(t, uncertified, "new @0; 1 (-> int int {0}) := fn @0 [bind 2; new @1; 5 (ref int @1) := ref 2 @1; 3 int := call .0 @1 last 2; 6 (* int int) := tuple 2 2 @0; value 3]; end @0; value 0", "", "2")
}

// TestNested: lambdas in lambdas, and what is known around them.
func TestNested(t *testing.T) {
	const two = "(-> int (-> int int {0}) {0})"
	// The outer closure has 2 words, the inner one 3, and an application of that makes 1.
	const nested = "new @0; 1 " + two + " := fn @0 [bind 2; 3 (-> int int {0}) := fn @0 [bind 4; 5 int := add 2 4; 6 (ref int) := ref 5 @0; value 5]; value 3]; "
	mainIs(t, "", nested+"end @0; value 0", "", "2")
	mainIs(t, "", nested+"7 (-> int int {0}) := apply 1 0; end @0; value 0", "", "5")
	mainIs(t, "", nested+"7 (-> int int {0}) := apply 1 0; 8 int := apply 7 0; end @0; value 8", "", "6")
	mainIs(t, "", nested+"7 (-> int int {0}) := apply 1 0; 8 int := apply 7 0; 9 int := apply 7 0; end @0; value 8", "", "7")
	// An inner lambda that can't go on has no cost, the outer one has.
	const inner = "new @0; 10 (-> int int) := fn @0 [bind 11; value 11]; 12 (ref (-> int int)) := ref 10 @0; 1 " + two + " := fn @0 [bind 2; 3 (-> int int {0}) := fn @0 [bind 4; 13 (-> int int) := deref 12; 5 int := apply 13 4; value 5]; value 3]; 7 (-> int int {0}) := apply 1 0; "
	mainIs(t, "", inner+"end @0; value 0", "", "7")
	mainIs(t, "", inner+"8 int := apply 7 0; end @0; value 8", "", "?")
	// What is known of a list around a lambda is known in it; where it is looked at there, what is put is put back.
	const listed = "fun f 0 1 0 {0} ((d0 int)) int [1 (-> int int {0}) := fn @0 [bind 2; 3 int := case 0 [value 2] [bind 4 5; 6 (d0 int) := make .1 4 5 @0; 7 (d0 int) := make .1 4 6 @0; 8 int := call .1 @0 7; value 8]; value 3]; 9 int := apply 1 10; end @0; value 9]; fun g 0 1 0 {} ((d0 int)) int [1 int := int #0; value 1];"
	p := program(t, strings.Replace(listed, "1 (->", "10 int := int #0; 1 (->", 1)+someMain)
	isJust(t, p, "12 1*0", func(text string) []api.Cert {
		return certsOf(p, "g; peak 1*0\nf; peak "+text+"; growth plenty\nmain; peak")
	})
}

// TestTypeVariables: the size of a result counts where its type variables stand for nothing that has parts.
func TestTypeVariables(t *testing.T) {
	const f = "fun f 2 1 0 {} (v0 v1 (d0 v0)) (d0 v0) [value 2]; "
	result := func(functions, call, result, want string) {
		t.Helper()
		p := program(t, functions+"fun g 1 1 0 {0} ((d0 int) (* int int) v0 (d0 (* int int)) (d0 v0) (ref (d0 int))) "+result+" ["+call+" end @0; value 99];"+someMain)
		isJust(t, p, want, func(text string) []api.Cert {
			return certsOf(p, "f; peak; size 5 1*2\ng; peak plenty; growth plenty; size "+text+"\nmain; peak")
		})
	}
	result(f, "98 int := int #1; 99 (d0 int) := call .0 (int int) @0 98 98 0;", "(d0 int)", "5 1*0")
	result(f, "98 int := int #1; 99 (d0 int) := call .0 (int (* int int)) @0 98 1 0;", "(d0 int)", "5 1*0")
	result(f, "99 (d0 v0) := call .0 (v0 (* int int)) @0 2 1 4;", "(d0 v0)", "5 1*4")
	result(f, "99 (d0 (* int int)) := call .0 ((* int int) v0) @0 1 2 3;", "(d0 (* int int))", "?")
	const bare = "fun f 1 1 0 {} (int int v0) v0 [value 2]; "
	result(bare, "98 int := int #1; 99 int := call .0 (int) @0 98 98 98;", "int", "?")
	result(bare, "98 int := int #1; 97 bool := bool #1; 99 bool := call .0 (bool) @0 98 98 97;", "bool", "")
	result(bare, "98 int := int #1; 99 (* int int) := call .0 ((* int int)) @0 98 98 1;", "(* int int)", "?")
	const pair = "fun f 1 1 0 {} (int int (* int v0)) (* int v0) [value 2]; "
	result(pair, "98 int := int #1; 97 (* int int) := tuple 98 98 @0; 99 (* int int) := call .0 (int) @0 98 98 97;", "(* int int)", "7")
	result(pair, "98 int := int #1; 97 (* int (* int int)) := tuple 98 1 @0; 99 (* int (* int int)) := call .0 ((* int int)) @0 98 98 97;", "(* int (* int int))", "?")
	const within = "fun f 1 1 0 {} (int int (* int (ref v0))) (* int (ref v0)) [value 2]; "
	result(within, "98 int := int #1; 97 (* int (ref (d0 int))) := tuple 98 5 @0; 99 (* int (ref (d0 int))) := call .0 ((d0 int)) @0 98 98 97;", "(* int (ref (d0 int)))", "7")
	const ints = "fun f 1 1 0 {} (v0 v0 int) int [value 2]; "
	result(ints, "98 int := int #9; 99 int := call .0 ((* int int)) @0 1 1 98;", "int", "14")
	result(ints, "98 int := int #9; 97 int := call .0 ((* int int)) @0 1 1 98; 99 int := add 97 98;", "int", "?")
	// A size that the certificate does not know is not known.
	p := program(t, f+"fun g 0 1 0 {} ((d0 int)) (d0 int) [98 int := int #1; 99 (d0 int) := call .0 (int int) @0 98 98 0; value 99];"+someMain)
	isJust(t, p, "?", func(text string) []api.Cert { return certsOf(p, "f; peak\ng; peak; size "+text+"\nmain; peak") })
	verifiedIs(t, p, certsOf(p, "f; peak\ng; peak\nmain; peak"), api.OK)
}
