package bounds_test

import (
	"fmt"
	"strings"
	"testing"

	"heriot/api"
)

// head is that of the function whose steps are looked at. In its certificates 0 is the int 0, 1 the list, 2 the array, 3 the closure, 4 the tuple, 5 the int 5, 6 the value of a type variable, 7 the closure's cost.
const head = "fun f 1 2 1 {0 1 e0} (int (d0 int {e0}) (array int @1) (-> int int @1 {e0}) (* int (* int int)) int v0) "

// someMain is a main that does nothing.
const someMain = " fun main (int) int [value 0];"

// plentyFor are certificates of the function f, by which it may need very much, and of main.
func plentyFor(p api.Program, more string) []api.Cert {
	much := plenty(8, 1<<35)
	return certsOf(p, "main; peak 1000\nf; peak "+plenty(8, 1<<40)+"; growth "+much+"; growth "+much+"; behind "+much+"; "+more)
}

// isJust looks at whether what a certificate says of something is taken, but nothing less; or, if it is not known, nothing at all.
func isJust(t *testing.T, p api.Program, want string, with func(text string) []api.Cert) {
	t.Helper()
	if want == "?" {
		verifiedIs(t, p, with("plenty"), api.ErrBound)
		verifiedIs(t, p, with(""), api.ErrBound)
		return
	}
	verifiedIs(t, p, with(want), api.OK)
	words := strings.Fields(want)
	for i := range words {
		less := append([]string{}, words...)
		var n int64
		fmt.Sscan(strings.Split(words[i], "*")[0], &n)
		less[i] = strings.Replace(words[i], fmt.Sprint(n), fmt.Sprint(n-1), 1)
		if n == 1 {
			less[i] = ""
		}
		verifiedIs(t, p, with(strings.Join(less, " ")), api.ErrBound)
	}
}

// sizeIs looks at the bound of what some steps of f come to: the variable 99, or else the last one.
func sizeIs(t *testing.T, result, steps string, value int, want string) {
	t.Helper()
	p := program(t, fmt.Sprintf("%s %s [%s end @0; end @1; value %d]; %s", head, result, steps, value, someMain))
	isJust(t, p, want, func(text string) []api.Cert { return plentyFor(p, "size "+text) })
}

// intIs is sizeIs for ints; the value is the variable 99.
func intIs(t *testing.T, steps, want string) {
	t.Helper()
	sizeIs(t, "int", steps, 99, want)
}

const (
	two50    = "1125899906842624"
	above50  = "1125899906842625"
	list     = "(d0 int {e0})"
	closures = "(-> int int @1 {e0})"
	mostInt  = "9223372036854775807"
	leastInt = "-9223372036854775808"
)

// TestConstants: OInt and the steps whose Outs have no size.
func TestConstants(t *testing.T) {
	for number, want := range map[string]string{"5": "5", "0": "", "-5": "", two50: two50, above50: "?", mostInt: "?", leastInt: ""} {
		intIs(t, "99 int := int #"+number+";", want)
	}
	sizeIs(t, "bool", "99 bool := bool #1;", 99, "")
	sizeIs(t, "unit", "99 unit := unit;", 99, "")
	sizeIs(t, "unit", "99 unit := print 0;", 99, "")
	sizeIs(t, "bool", "99 bool := less 0 5;", 99, "")
	sizeIs(t, "bool", "99 bool := eq 0 5;", 99, "")
	sizeIs(t, "unit", "99 unit := put 2 0 5;", 99, "")
	sizeIs(t, "unit", "98 (ref int) := ref 0 @0; 99 unit := set 98 5;", 99, "")
	sizeIs(t, "(ref int)", "99 (ref int) := ref 0 @0;", 99, "")
	sizeIs(t, closures, "99 "+closures+" := fn @1 [bind 98; value 98];", 99, "")
	sizeIs(t, "v0", "", 6, "1*6")
	sizeIs(t, list, "", 1, "1*1")
}

// TestCells: the sizes of constructors and tuples, and of their parts.
func TestCells(t *testing.T) {
	sizeIs(t, "(* int int)", "99 (* int int) := tuple 0 5 @0;", 99, "2")
	sizeIs(t, "(* int "+list+" (array int @1) (* int (* int int)))", "99 (* int "+list+" (array int @1) (* int (* int int))) := tuple 0 1 2 4 @0;", 99, "4 1*1 1*4")
	sizeIs(t, "(* v0 v0)", "99 (* v0 v0) := tuple 6 6 @0;", 99, "2")
	sizeIs(t, list, "99 "+list+" := make .1 0 1 @0;", 99, "3 1*1")
	sizeIs(t, list, "99 "+list+" := make .0;", 99, "")
	lists := "(d0 " + list + " {e0})"
	sizeIs(t, lists, "98 "+lists+" := make .0; 99 "+lists+" := make .1 1 98 @0;", 99, "3 1*1")
	hidden := "97 (ref " + list + ") := ref 1 @0; 98 " + list + " := deref 97; "
	sizeIs(t, list, hidden, 98, "?")
	sizeIs(t, list, hidden+"99 "+list+" := make .1 0 98 @0;", 99, "?")
	sizeIs(t, "(* "+list+" int)", hidden+"99 (* "+list+" int) := tuple 98 0 @0;", 99, "?")
	sizeIs(t, "(* int (ref "+list+"))", hidden+"99 (* int (ref "+list+")) := tuple 0 97 @0;", 99, "2")
	intIs(t, "99 int := get #0 4;", "?")
	sizeIs(t, "(* int int)", "99 (* int int) := get #1 4;", 99, "1*4")
	sizeIs(t, "(array int @1)", "98 (* (array int @1) "+closures+") := tuple 2 3 @0; 99 (array int @1) := get #0 98;", 99, "?")
	sizeIs(t, closures, "98 (* (array int @1) "+closures+") := tuple 2 3 @0; 99 "+closures+" := get #1 98;", 99, "")
	sizeIs(t, list, hidden+"96 (* "+list+" int) := tuple 98 0 @0; 99 "+list+" := get #0 96;", 99, "?")
}

// TestParts: what is read out of refs and arrays, and what closures give.
func TestParts(t *testing.T) {
	intIs(t, "98 (ref int) := ref 0 @0; 99 int := deref 98;", "?")
	sizeIs(t, "(ref int)", "97 (ref int) := ref 0 @0; 98 (ref (ref int)) := ref 97 @0; 99 (ref int) := deref 98;", 99, "")
	sizeIs(t, "(* int (* int int))", "98 (ref (* int (* int int))) := ref 4 @0; 99 (* int (* int int)) := deref 98;", 99, "?")
	sizeIs(t, "(array int @1)", "98 (ref (array int @1)) := ref 2 @0; 99 (array int @1) := deref 98;", 99, "?")
	intIs(t, "99 int := at 2 0;", "?")
	sizeIs(t, "v0", "98 (array v0) := array 0 6 @0; 99 v0 := at 98 0;", 99, "")
	sizeIs(t, list, "98 (array "+list+") := array 0 1 @0; 99 "+list+" := at 98 0;", 99, "?")
	intIs(t, "99 int := apply 3 0;", "?")
	makes := "(-> int " + list + " @1 {e0})"
	sizeIs(t, list, "98 "+makes+" := fn @1 [bind 97; 96 "+list+" := make .0; value 96]; 99 "+list+" := apply 98 0;", 99, "?")
	gives := "(-> int bool @1 {e0})"
	sizeIs(t, "bool", "98 "+gives+" := fn @1 [bind 97; 96 bool := bool #1; value 96]; 99 bool := apply 98 0;", 99, "")
}

// TestArrays: OArray and OLen.
func TestArrays(t *testing.T) {
	array := func(count, want string) {
		t.Helper()
		sizeIs(t, "(array int)", count+" 99 (array int) := array 98 0 @0;", 99, want)
	}
	for number, want := range map[string]string{"5": "5", "0": "", "4096": "4096", "4097": "", "-1": "", mostInt: ""} {
		array("98 int := int #"+number+";", want)
	}
	array("97 int := int #0; 98 int := add 0 97;", "4096")
	array("97 int := len 2; 98 int := add 97 97;", "2*2")
	sizeIs(t, "(array int)", "99 (array int) := array 0 5 @0;", 99, "1*0")
	intIs(t, "99 int := len 2;", "1*2")
	intIs(t, "98 (ref (array int @1)) := ref 2 @0; 97 (array int @1) := deref 98; 99 int := len 97;", "4096")
	intIs(t, "98 int := int #5000; 97 (array int) := array 98 0 @0; 99 int := len 97;", "")
}

// TestArithmetic: what is known of ints that are made of others.
func TestArithmetic(t *testing.T) {
	// 10 is a length, 11 a length with a constant part.
	const lengths = "10 int := len 2; 12 int := int #4; 13 int := add 10 12; 14 (array int) := array 13 0 @0; 11 int := len 14; "
	number := func(variable int, n string) string { return fmt.Sprintf("%d int := int #%s; ", variable, n) }
	for steps, want := range map[string]string{
		"99 int := add 10 10;":                                                              "2*2",
		"99 int := add 10 11;":                                                              "4 2*2",
		"99 int := add 0 10;":                                                               "?",
		"99 int := add 10 0;":                                                               "?",
		number(20, "-1") + "99 int := add 10 20;":                                           "?",
		number(20, "0") + "99 int := add 10 20;":                                            "1*2",
		number(20, above50) + "99 int := add 20 10;":                                        "?",
		number(20, two50) + "99 int := add 20 12;":                                          "?",
		"20 int := add 10 10; 99 int := add 20 10;":                                         "?",
		number(20, "3") + "99 int := sub 11 20;":                                            "1 1*2",
		number(20, "4") + "99 int := sub 11 20;":                                            "1*2",
		number(20, "9") + "99 int := sub 11 20;":                                            "1*2",
		number(20, "0") + "99 int := sub 11 20;":                                            "4 1*2",
		number(20, "-1") + "99 int := sub 11 20;":                                           "?",
		number(20, two50) + "99 int := sub 11 20;":                                          "1*2",
		number(20, above50) + "99 int := sub 11 20;":                                        "?",
		"99 int := sub 11 10;":                                                              "?",
		number(20, "1") + "99 int := sub 0 20;":                                             "?",
		number(20, "1") + "21 int := sub 10 20; 99 int := sub 21 20;":                       "?",
		number(20, "0") + "21 int := sub 10 20; 99 int := sub 21 20;":                       "1*2",
		number(20, "7") + number(21, "5") + "22 int := sub 20 21; 99 int := add 22 10;":     "2 1*2",
		number(20, "5") + number(21, "7") + "22 int := sub 20 21; 99 int := add 22 10;":     "?",
		number(20, "5") + number(21, "7") + "99 int := sub 20 21;":                          "",
		number(20, above50) + number(21, "1") + "22 int := sub 20 21; 99 int := mod 22 12;": "3",
		"99 int := mul 12 11;":                                                              "16 4*2",
		"99 int := mul 11 12;":                                                              "16 4*2",
		"99 int := mul 10 10;":                                                              "?",
		"99 int := mul 12 0;":                                                               "?",
		"99 int := mul 12 12;":                                                              "16",
		number(20, "0") + "99 int := mul 20 10;":                                            "",
		number(20, "0") + "99 int := mul 20 0;":                                             "?",
		number(20, "-1") + "99 int := mul 20 10;":                                           "?",
		number(20, "-1") + "99 int := mul 20 12;":                                           "?",
		number(20, two50) + "99 int := mul 10 20;":                                          two50 + "*2",
		number(20, two50) + "99 int := mul 11 20;":                                          "?",
		number(20, above50) + "99 int := mul 20 10;":                                        "?",
		number(20, above50) + number(21, "0") + "99 int := mul 20 21;":                      "?",
		"20 int := mul 12 10; 99 int := add 20 10;":                                         "?",
		"99 int := div 11 12;":                                                              "4 1*2",
		"99 int := div 0 12;":                                                               "1*0",
		"20 int := div 0 12; 99 int := add 20 12;":                                          "?",
		"20 int := div 10 12; 99 int := add 20 12;":                                         "4 1*2",
		number(20, "0") + "99 int := div 10 20;":                                            "?",
		number(20, "-2") + "99 int := div 10 20;":                                           "?",
		number(20, "1") + "99 int := div 10 20;":                                            "1*2",
		"99 int := div 10 0;":                                                               "?",
		"20 int := get #0 4; 99 int := div 20 12;":                                          "?",
		"99 int := mod 0 12;":                                                               "3",
		"20 int := get #0 4; 99 int := mod 20 12;":                                          "3",
		"20 int := mod 0 12; 99 int := add 20 12;":                                          "?",
		"20 int := mod 10 12; 99 int := add 20 12;":                                         "7",
		number(20, "1") + "99 int := mod 0 20;":                                             "",
		number(20, "0") + "99 int := mod 0 20;":                                             "?",
		number(20, "-3") + "99 int := mod 0 20;":                                            "?",
		"99 int := mod 12 0;":                                                               "?",
		number(20, above50) + "99 int := mod 0 20;":                                         two50,
		number(20, "1125899906842626") + "99 int := mod 0 20;":                              "?",
		number(20, "1125899906842626") + "21 int := mod 10 20; 99 int := mod 21 12;":        "3",
		"20 int := raise .0 0; 21 int := int #1; 22 int := sub 20 21; 99 int := add 22 10;": "?",
		"20 int := raise .0 0; 99 int := add 20 10;":                                        "1*2",
		"20 (array int) := raise .0 0; 99 int := len 20;":                                   "",
	} {
		intIs(t, lengths+steps, want)
	}
}
