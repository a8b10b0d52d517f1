package bounds_test

import (
	"testing"

	"heriot/api"
)

// listHead is that of a function of a list, an int and a tree in region 0, which may make cells there. In its certificates 0 is the list, 1 the int, 2 the tree.
const listHead = "fun f 0 1 0 {0} ((d0 int) int (d1)) "

// listIs looks at the size of what some steps of such a function come to: the variable 99.
func listIs(t *testing.T, result, steps, want string) {
	t.Helper()
	p := program(t, listHead+result+" ["+steps+" end @0; value 99];"+someMain)
	isJust(t, p, want, func(text string) []api.Cert {
		return certsOf(p, "f; peak "+plenty(3, 1<<20)+"; growth "+plenty(3, 1<<16)+"; size "+text+"\nmain; peak")
	})
}

// endIs does so where the last step of the body is the one that gives the value, so that its blocks, which end region 0, are at the end.
func endIs(t *testing.T, result, steps, want string) {
	t.Helper()
	p := program(t, listHead+result+" ["+steps+" value 99];"+someMain)
	isJust(t, p, want, func(text string) []api.Cert {
		return certsOf(p, "f; peak "+plenty(3, 1<<20)+"; growth "+plenty(3, 1<<16)+"; size "+text+"\nmain; peak")
	})
}

// TestLeast: what a test says of an int, by what can be taken from it.
func TestLeast(t *testing.T) {
	// In a block where the int 1 is at least m, m taken from it leaves a natural number, to which 7 is added; m + 1 taken does not.
	within := func(test, number, take, want string) {
		t.Helper()
		block := " [12 int := int #" + take + "; 13 int := sub 1 12; 14 int := int #7; 15 int := add 13 14; value 15] "
		other := " [16 int := int #0; value 16] "
		blocks := block + other
		if test == "less 1 10" {
			blocks = other + block
		}
		listIs(t, "int", "10 int := int #"+number+"; 11 bool := "+test+"; 99 int := if 11"+blocks+";", want)
	}
	// The number is put as m and more, and put back: of the 7 is left what was not taken.
	within("less 10 1", "0", "1", "6 1*1")
	within("less 10 1", "0", "2", "?")
	within("less 10 1", "4", "5", "2 1*1")
	within("less 10 1", "4", "4", "3 1*1")
	within("less 10 1", "4", "6", "?")
	within("less 10 1", "4095", "4096", "1*1")
	within("less 10 1", "4096", "4097", "7 1*1")
	within("less 10 1", "-1", "0", "7 1*1")
	within("less 10 1", "-1", "1", "?")
	within("less 10 1", "-2", "0", "?")
	within("less 1 10", "1", "1", "6 1*1")
	within("less 1 10", "1", "2", "?")
	within("less 1 10", "0", "0", "7 1*1")
	within("less 1 10", "-1", "0", "?")
	within("less 10 1", mostInt, "5", "7 1*1")
	within("less 10 1", leastInt, "0", "?")
	within("eq 10 1", "5", "1", "?")
	// The other block, and tests of other ints, say nothing.
	listIs(t, "int", "10 int := int #3; 11 bool := less 10 1; 99 int := if 11 [16 int := int #0; value 16] [14 int := int #1; 15 int := sub 1 14; value 15];", "?")
	listIs(t, "int", "10 int := int #3; 11 bool := less 1 10; 99 int := if 11 [14 int := int #1; 15 int := sub 1 14; value 15] [16 int := int #0; value 16];", "?")
	listIs(t, "int", "10 int := mul 1 1; 11 bool := less 10 1; 99 int := if 11 [14 int := int #1; 15 int := sub 1 14; value 15] [16 int := int #0; value 16];", "?")
	// A test that comes out of blocks says nothing, nor does one that is handed through a handle.
	listIs(t, "int", "10 int := int #3; 11 bool := bool #1; 12 bool := if 11 [13 bool := less 10 1; value 13] [value 11]; 99 int := if 12 [14 int := int #1; 15 int := sub 1 14; value 15] [16 int := int #0; value 16];", "?")
	listIs(t, "int", "10 int := int #3; 12 bool := handle {0} [13 bool := less 10 1; value 13] [bind 17; value 17]; 99 int := if 12 [14 int := int #1; 15 int := sub 1 14; value 15] [16 int := int #0; value 16];", "?")
	// What was known as a greater least stays.
	listIs(t, "int", "10 int := int #3; 11 bool := less 10 1; 12 int := int #0; 99 int := if 11 [13 bool := less 12 1; 20 int := if 13 [14 int := int #4; 15 int := sub 1 14; 21 int := add 15 14; value 21] [value 12]; value 20] [value 12];", "1*1")
}

// TestPutInt: where an int is at least m, it is put as m and more: a block at the end has that in all polynomials.
func TestPutInt(t *testing.T) {
	size := func(test, number, blocks, want string) {
		t.Helper()
		endIs(t, "int", "10 int := int #"+number+"; 11 bool := "+test+"; 99 int := if 11 "+blocks+";", want)
	}
	const zero = "[16 int := int #0; end @0; value 16]"
	number := func(n string) string { return "[12 int := int #" + n + "; end @0; value 12]" }
	size("less 10 1", "4", "[12 int := int #3; 13 int := sub 1 12; end @0; value 13]"+zero, "1*1")
	// A number above MaxArray is not put, though it is the least one.
	verify := func(test, n, blocks, size string, want api.Errno) {
		t.Helper()
		p := program(t, listHead+"int [10 int := int #"+n+"; 11 bool := "+test+"; 99 int := if 11 "+blocks+"; value 99];"+someMain)
		verifiedIs(t, p, certsOf(p, "f; peak; growth; size "+size+"\nmain; peak"), want)
	}
	verify("less 10 1", "4096", number("4097")+zero, "1*1", api.ErrBound)
	verify("less 10 1", "4096", number("4097")+zero, "4097 1*1", api.OK)
	verify("less 10 1", "-1", number("1")+zero, "1000*1", api.ErrBound)
	verify("less 1 10", "5", zero+number("5"), "1*1", api.OK)
	verify("less 1 10", "5", zero+number("6"), "1*1", api.ErrBound)
	verify("less 1 10", "5", zero+number("6"), "2*1", api.OK)
	verify("less 1 10", "0", zero+number("1"), "1000*1", api.ErrBound)
	verify("less 10 1", "2", number("3")+zero, "1*1.1", api.OK)
	verify("less 10 1", "2", number("4")+zero, "1*1.1", api.ErrBound)
	verify("less 10 1", "2", number("1")+zero, "1*1.1.1", api.OK)
	verify("less 10 1", "2", number("2")+zero, "1*1.1.1", api.ErrBound)
	// Tested twice, it is put once.
	verify("less 10 1", "0", "[20 int := int #3; 21 bool := less 20 1; 22 int := if 21 [23 int := int #4; end @0; value 23] [24 int := int #1; end @0; value 24]; value 22]"+zero, "1*1", api.ErrBound)
	verify("less 10 1", "0", "[20 int := int #3; 21 bool := less 20 1; 22 int := if 21 [23 int := int #1; end @0; value 23] [24 int := int #1; end @0; value 24]; value 22]"+zero, "1*1", api.OK)
}

// TestFields: what is known of the fields of a constructor, at the end.
func TestFields(t *testing.T) {
	const nothing = "[10 (d0 int) := make .0; end @0; value 10]"
	// The rest of a list is at most the list without the 3 words of the cell.
	endIs(t, "(d0 int)", "99 (d0 int) := case 0 "+nothing+" [bind 11 12; end @0; value 12];", "1*0")
	p := program(t, listHead+"(d0 int) [99 (d0 int) := case 0 "+nothing+" [bind 11 12; 13 (d0 int) := make .1 1 12 @0; end @0; value 13]; value 99];"+someMain)
	verifiedIs(t, p, certsOf(p, "f; peak 3; growth 3; size 1*0\nmain; peak"), api.OK)
	verifiedIs(t, p, certsOf(p, "f; peak 1*0; growth 1*0; size 1*0\nmain; peak"), api.OK)
	two := program(t, listHead+"(d0 int) [99 (d0 int) := case 0 "+nothing+" [bind 11 12; 13 (d0 int) := make .1 1 12 @0; 14 (d0 int) := make .1 1 13 @0; end @0; value 14]; value 99];"+someMain)
	verifiedIs(t, two, certsOf(two, "f; peak 6; growth 6; size 1*0 2\nmain; peak"), api.ErrBound)
	verifiedIs(t, two, certsOf(two, "f; peak 6; growth 6; size 1*0 3\nmain; peak"), api.OK)
	verifiedIs(t, two, certsOf(two, "f; peak 2*0; growth 2*0; size 2*0\nmain; peak"), api.OK)
	verifiedIs(t, two, certsOf(two, "f; peak 1*0 2; growth 1*0 3; size 2*0\nmain; peak"), api.ErrBound)
	verifiedIs(t, two, certsOf(two, "f; peak 1*0 3; growth 1*0 2; size 2*0\nmain; peak"), api.ErrBound)
	// The subtrees, and what is left, are apart.
	const leaf = "[10 (d1) := make .0; end @0; value 10]"
	tree := program(t, listHead+"(d1) [99 (d1) := case 2 "+leaf+" [bind 11 12 13; 14 (d1) := make .1 11 12 13 @0; end @0; value 14]; value 99];"+someMain)
	verifiedIs(t, tree, certsOf(tree, "f; peak 4; growth 4; size 1*2\nmain; peak"), api.OK)
	both := program(t, listHead+"(d1) [99 (d1) := case 2 "+leaf+" [bind 11 12 13; 14 (d1) := make .1 11 12 11 @0; end @0; value 14]; value 99];"+someMain)
	verifiedIs(t, both, certsOf(both, "f; peak 4; growth 4; size 1*2 1000\nmain; peak"), api.ErrBound)
	verifiedIs(t, both, certsOf(both, "f; peak 4; growth 4; size 2*2\nmain; peak"), api.OK)
	// Products of subtrees are less than those of the tree: two of 4 + y + y' + z are 6, and 4 of each, and all pairs.
	square := func(more string) api.Program {
		return program(t, "fun g 0 1 0 {} ((d1) (d1)) int [2 int := int #0; value 2]; "+listHead+"int [99 int := case 2 [10 int := int #0; end @0; value 10] [bind 11 12 13; "+more+" end @0; value 14]; value 99];"+someMain)
	}
	pairs := square("14 int := call .0 @0 11 13;")
	for cert, want := range map[string]api.Errno{"1*2.2": api.OK, "1*2": api.ErrBound, "5*2.2 5": api.OK} {
		verifiedIs(t, pairs, certsOf(pairs, "g; peak 1*0.1; size\nf; peak "+cert+"; growth\nmain; peak"), want)
	}
	selves := square("14 int := call .0 @0 11 11;")
	verifiedIs(t, selves, certsOf(selves, "g; peak 1*0.1; size\nf; peak 1*2.2 1*2; growth\nmain; peak"), api.ErrBound)
	verifiedIs(t, selves, certsOf(selves, "g; peak 1*0.1; size\nf; peak 2*2.2 1*2; growth\nmain; peak"), api.OK)
	verifiedIs(t, selves, certsOf(selves, "g; peak 1*0.0 1*1.1; size\nf; peak 2*2.2; growth\nmain; peak"), api.OK)
	verifiedIs(t, selves, certsOf(selves, "g; peak 1*0.0 1*1.1; size\nf; peak 1*2.2 1000; growth\nmain; peak"), api.ErrBound)
}

// TestBoundedFields: fields of values of which another bound is known, or none.
func TestBoundedFields(t *testing.T) {
	const nothing = "[10 (d0 int) := make .0; value 10]"
	// 20 has the words 3 and those of the list; what is left behind its first cell has the list's.
	listIs(t, "(d0 int)", "20 (d0 int) := make .1 1 0 @0; 99 (d0 int) := case 20 "+nothing+" [bind 11 12; value 12];", "1*0")
	listIs(t, "(d0 int)", "20 (d0 int) := make .0; 99 (d0 int) := case 20 "+nothing+" [bind 11 12; value 12];", "")
	listIs(t, "(d0 int)", "21 (d0 int) := make .0; 20 (d0 int) := make .1 1 21 @0; 22 (d0 int) := make .1 1 20 @0; 99 (d0 int) := case 22 "+nothing+" [bind 11 12; value 12];", "3")
	listIs(t, "(d0 int)", "20 (ref (d0 int)) := ref 0 @0; 21 (d0 int) := deref 20; 99 (d0 int) := case 21 "+nothing+" [bind 11 12; value 12];", "?")
	// Of the other fields no int and no array is known.
	listIs(t, "int", "99 int := case 0 [10 int := int #0; value 10] [bind 11 12; value 11];", "?")
	const box = "20 (d3 (* int int)) := make .0 30 @0; "
	listIs(t, "(* int int)", "30 (* int int) := tuple 1 1 @0; "+box+"99 (* int int) := case 20 [bind 11; value 11];", "2")
	listIs(t, "(array int)", "30 (array int) := array 1 1 @0; 20 (d3 (array int)) := make .0 30 @0; 99 (array int) := case 20 [bind 11; value 11];", "?")
	listIs(t, "bool", "30 bool := bool #1; 20 (d3 bool) := make .0 30 @0; 99 bool := case 20 [bind 11; value 11];", "")
	listIs(t, "(-> int int)", "30 (-> int int) := fn @0 [bind 31; value 31]; 20 (d3 (-> int int)) := make .0 30 @0; 99 (-> int int) := case 20 [bind 11; value 11];", "")
	// A constructor without fields says nothing.
	listIs(t, "(d0 int)", "99 (d0 int) := case 0 [value 0] [bind 11 12; value 12];", "1*0")
}

// TestPutBack: what blocks have come to is at most what stands behind the step.
func TestPutBack(t *testing.T) {
	block := func(fields, value string) string {
		return "99 (d0 int) := case 0 [10 (d0 int) := make .0; value 10] [bind 11 12; " + fields + " value " + value + "];"
	}
	cell := func(out, rest string) string { return out + " (d0 int) := make .1 1 " + rest + " @0; " }
	listIs(t, "(d0 int)", block(cell("13", "12"), "13"), "1*0")
	listIs(t, "(d0 int)", block(cell("13", "12")+cell("14", "13"), "14"), "3 1*0")
	listIs(t, "(d0 int)", block("", "0"), "1*0")
	listIs(t, "(d0 int)", block(cell("13", "0"), "13"), "3 1*0")
	// The list as it is, twice, in a block where nothing else is known of it: what is put back is less by its 3 words.
	listIs(t, "(* (d0 int) (d0 int))", "99 (* (d0 int) (d0 int)) := case 0 [10 (d0 int) := make .0; 14 (* (d0 int) (d0 int)) := tuple 10 10 @0; value 14] [bind 11 12; 13 (* (d0 int) (d0 int)) := tuple 12 12 @0; value 13];", "2 2*0")
	// Where one block's value is not known, the step's is not; the least is the least of all.
	const three = "98 bool := bool #1; 97 int := int #3; "
	listIs(t, "int", three+"99 int := if 98 [value 97] [10 int := mul 1 1; value 10];", "?")
	listIs(t, "int", three+"99 int := if 98 [value 97] [10 int := int #5; value 10];", "5")
	listIs(t, "int", three+"96 int := if 98 [value 97] [10 int := int #5; value 10]; 95 int := sub 96 97; 99 int := add 95 97;", "5")
	listIs(t, "int", three+"96 int := if 98 [value 97] [10 int := int #2; value 10]; 95 int := sub 96 97; 99 int := add 95 97;", "?")
	listIs(t, "int", three+"96 int := if 98 [value 97] [value 1]; 99 int := add 96 97;", "?")
	// What comes out of blocks is no constant: an array of as many may have more than MaxArray elements.
	listIs(t, "(array int)", "98 bool := bool #1; 97 int := int #5000; 96 int := if 98 [value 97] [value 97]; 99 (array int) := array 96 1 @0;", "5000")
}
