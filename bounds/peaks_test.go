package bounds_test

import (
	"testing"

	"heriot/api"
)

// mainIs looks at the least Peak of a main (int) int with some steps, where other functions, with certificates, stand ahead.
func mainIs(t *testing.T, functions, steps, certs, want string) {
	t.Helper()
	peakIs(t, program(t, functions+" fun main (int) int ["+steps+"];"), certs, want)
}

// TestWords: how many words the steps make, and where these count.
func TestWords(t *testing.T) {
	mainIs(t, "", "value 0", "", "")
	mainIs(t, "", "new @0; end @0; value 0", "", "")
	mainIs(t, "", "new @0; 1 (ref int) := ref 0 @0; end @0; value 0", "", "1")
	mainIs(t, "", "new @0; 1 (* int int int) := tuple 0 0 0 @0; end @0; value 0", "", "3")
	mainIs(t, "", "new @0; 1 (d0 int) := make .0; 2 (d0 int) := make .1 0 1 @0; end @0; value 0", "", "3")
	mainIs(t, "", "new @0; 1 (d0 int) := make .0; end @0; value 0", "", "")
	mainIs(t, "", "new @0; 1 int := int #7; 2 (array int) := array 1 0 @0; end @0; value 0", "", "8")
	mainIs(t, "", "new @0; 1 int := int #0; 2 (array int) := array 1 0 @0; end @0; value 0", "", "1")
	mainIs(t, "", "new @0; 1 int := int #-1; 2 (array int) := array 1 0 @0; end @0; value 0", "", "")
	mainIs(t, "", "new @0; 1 int := int #4096; 2 (array int) := array 1 0 @0; end @0; value 0", "", "4097")
	mainIs(t, "", "new @0; 1 int := int #4097; 2 (array int) := array 1 0 @0; end @0; value 0", "", "")
	mainIs(t, "", "new @0; 2 (array int) := array 0 0 @0; end @0; value 0", "", "1 1*0")
	mainIs(t, "", "new @0; 1 int := mul 0 0; 2 (array int) := array 1 0 @0; end @0; value 0", "", "4097")
	// Where the bound of an array would be beyond the bounds with its one word more.
	mainIs(t, "", "new @0; 1 int := int #"+above50+"; 3 int := mod 0 1; 2 (array int) := array 3 0 @0; end @0; value 0", "", "?")
	// Closures capture variables and handles, each once.
	mainIs(t, "", "new @0; 1 (-> int int) := fn @0 [bind 2; value 2]; end @0; value 0", "", "1")
	mainIs(t, "", "new @0; 1 (-> int int) := fn @0 [bind 2; 3 int := add 0 2; 4 int := add 0 3; value 4]; end @0; value 0", "", "2")
	mainIs(t, "", "new @0; 1 (-> int int {0}) := fn @0 [bind 2; 3 (ref int) := ref 0 @0; 4 (-> int int) := fn @0 [bind 5; value 0]; value 0]; end @0; value 0", "", "3")
	// What has been given back is gone, what others have is not.
	mainIs(t, "", "new @0; 1 (ref int) := ref 0 @0; end @0; new @1; 2 (* int int @1) := tuple 0 0 @1; end @1; value 0", "", "2")
	mainIs(t, "", "new @0; 1 (ref int) := ref 0 @0; new @1; 2 (* int int @1) := tuple 0 0 @1; end @0; 3 (ref int @1) := ref 0 @1; end @1; value 0", "", "3")
	mainIs(t, "", "new @0; new @1; 1 (ref int) := ref 0 @0; 2 (* int int @1) := tuple 0 0 @1; end @0; end @1; value 0", "", "3")
}

// grown is a function that makes a list of two in a region of others; its Growth is 2 alone.
const grown = "fun two 0 1 0 {0} (int) (* int int) [1 (* int int) := tuple 0 0 @0; end @0; value 1]; "

// TestGrowth: what is added to regions of others is at most Growth from then on, and counts in Peak.
func TestGrowth(t *testing.T) {
	p := program(t, grown+someMain)
	for text, want := range map[string]api.Errno{
		"peak 2; growth 2":         api.OK,
		"peak 1; growth 2":         api.ErrBound,
		"peak 2; growth 1":         api.ErrBound,
		"peak 2; growth 1000*0":    api.ErrBound,
		"peak 2 1*0; growth 3 1*0": api.OK,
	} {
		verifiedIs(t, p, certsOf(p, "two; "+text+"\nmain; peak"), want)
	}
	own := func(text string, want api.Errno) {
		t.Helper()
		verifiedIs(t, p, certsOf(p, "two 0; "+text+"\nmain; peak"), want)
	}
	own("peak 2 1*1", api.OK)
	own("peak 2", api.ErrBound)
	own("peak 1*1 1", api.ErrBound)
	// At the begin what is held is at most Peak, too.
	idle := program(t, "fun idle 0 1 0 {0} (int) int [end @0; value 0];"+someMain)
	verifiedIs(t, idle, certsOf(idle, "idle 0; peak 1*1\nmain; peak"), api.OK)
	verifiedIs(t, idle, certsOf(idle, "idle 0; peak 1000 1000*0\nmain; peak"), api.ErrBound)
	verifiedIs(t, idle, certsOf(idle, "idle; peak; growth\nmain; peak"), api.OK)
	// A region that the function does not own is not gone when it gives it back.
	twice := program(t, "fun f 0 1 0 {0} (int) int [1 (ref int) := ref 0 @0; end @0; new @1; 2 (ref int @1) := ref 0 @1; end @1; value 0];"+someMain)
	verifiedIs(t, twice, certsOf(twice, "f; peak 2; growth 1\nmain; peak"), api.OK)
	verifiedIs(t, twice, certsOf(twice, "f; peak 1; growth 1\nmain; peak"), api.ErrBound)
	verifiedIs(t, twice, certsOf(twice, "f 0; peak 1 1*1\nmain; peak"), api.OK)
	// An exception may leave where a region has grown, though the block gives back what it has.
	raising := program(t, "fun f 0 1 0 {0} (int) int [1 (ref int) := ref 0 @0; 2 int := raise .0 0; end @0; value 2];"+someMain)
	verifiedIs(t, raising, certsOf(raising, "f; peak 1; growth\nmain; peak"), api.ErrBound)
	verifiedIs(t, raising, certsOf(raising, "f; peak 1; growth 1; size\nmain; peak"), api.OK)
}

// TestTaken: regions that are handed over are the callee's own.
func TestTaken(t *testing.T) {
	const f = "fun f 0 1 0 {0} ((* int int)) int [1 int := get #0 0; end @0; value 1]; "
	const last = "new @0; 1 (* int int) := tuple 0 0 @0; 2 int := call .0 @0 last 1; value 2"
	const kept = "new @0; 1 (* int int) := tuple 0 0 @0; 2 int := call .0 @0 keep 1; 3 (ref int) := ref 0 @0; end @0; value 2"
	mainIs(t, f, last, "f 0; peak 1*1", "2")
	mainIs(t, f, last, "f 0; peak 1*1 5", "7")
	mainIs(t, f, last, "f 0; peak 2*1 3*1.1 4*0", "15")
	mainIs(t, f, last, "f; peak; growth", "?")
	mainIs(t, f, kept, "f; peak; growth", "3")
	mainIs(t, f, kept, "f; peak 7; growth", "9")
	mainIs(t, f, kept, "f; peak 3; growth 2", "5")
	mainIs(t, f, kept, "f; peak 1; growth 3*0", "9")
	mainIs(t, f, kept, "f 0; peak 1*1", "?")
	// A formal that is not the caller's own is not taken by Last: it has grown.
	const through = f + "fun g 0 1 0 {0} ((* int int)) int [1 int := call .0 @0 last 0; value 1]; "
	p := program(t, through+someMain)
	verifiedIs(t, p, certsOf(p, "f; peak 5; growth 5\ng; peak 5; growth 5\nmain; peak"), api.OK)
	verifiedIs(t, p, certsOf(p, "f; peak 5; growth 5\ng; peak 5; growth 4\nmain; peak"), api.ErrBound)
	verifiedIs(t, p, certsOf(p, "f; peak 5; growth 5\ng; peak 4; growth 5\nmain; peak"), api.ErrBound)
	verifiedIs(t, p, certsOf(p, "f 0; peak 1*1\ng; peak 5; growth 5\nmain; peak"), api.ErrBound)
	verifiedIs(t, p, certsOf(p, "f 0; peak 1*1 4\ng 0; peak 1*1 4\nmain; peak"), api.OK)
	verifiedIs(t, p, certsOf(p, "f 0; peak 1*1 4\ng 0; peak 1*1 3\nmain; peak"), api.ErrBound)
}

// TestOthers: two formals, some of them taken, and effects.
func TestOthers(t *testing.T) {
	const f = "fun f 0 3 1 {0 1 2 e0} (int) int [end @0; end @1; end @2; value 0]; "
	const regions = "new @0; new @1; new @2; new @3; 1 (ref int @0) := ref 0 @0; 2 (* int int @1) := tuple 0 0 @1; 3 (* int int int @2) := tuple 0 0 0 @2; "
	const ends = "end @0; end @2; end @3; value 4"
	// Formal 1 is taken, with 2 words; the others grow by 10 and 100, and what stands for the variable by 1000.
	const cert = "f 1; peak 1*1 20; growth 10; growth 100; behind 1000"
	mainIs(t, f, regions+"4 int := call .0 @0 @1 @2 {3} keep last keep 0; 5 (ref int @0) := ref 0 @0; "+ends, cert, "1115")
	mainIs(t, f, regions+"4 int := call .0 @0 @1 @2 {} keep last keep 0; 5 (ref int @0) := ref 0 @0; "+ends, cert, "115")
	mainIs(t, f, regions+"4 int := call .0 @0 @1 @2 {0 3} keep last keep 0; 5 (ref int @0) := ref 0 @0; "+ends, cert, "2115")
	mainIs(t, f, regions+"4 int := call .0 @0 @1 @2 {3} keep last keep 0; end @0; end @3; 5 (ref int @2) := ref 0 @2; end @2; value 4", cert, "104")
	mainIs(t, f, regions+"4 int := call .0 @0 @1 @2 {3} keep last keep 0; "+ends, "f 1; peak 1*1 2000; growth 10; growth 100; behind 1000", "2006")
	// In a function behind whose variables, and in whose formals, it grows.
	const g = f + "fun g 0 2 2 {0 1 e0 e1} (int) int [new @2; 1 int := call .0 @0 @2 @0 {1 e0 e1} keep last keep 0; end @0; end @1; value 1]; "
	p := program(t, g+someMain)
	says := func(text string) []api.Cert {
		return certsOf(p, "f 1; peak 1*1 2000; growth 10; growth 100; behind 1000\nmain; peak\ng; "+text)
	}
	verifiedIs(t, p, says("peak 2000; growth 110; growth 1000; behind 1000; behind 1000"), api.OK)
	verifiedIs(t, p, says("peak 1999; growth 110; growth 1000; behind 1000; behind 1000"), api.ErrBound)
	verifiedIs(t, p, says("peak 2000; growth 109; growth 1000; behind 1000; behind 1000"), api.ErrBound)
	verifiedIs(t, p, says("peak 2000; growth 110; growth 999; behind 1000; behind 1000"), api.ErrBound)
	verifiedIs(t, p, says("peak 2000; growth 110; growth 1000; behind 999; behind 1000"), api.ErrBound)
	verifiedIs(t, p, says("peak 2000; growth 110; growth 1000; behind 1000; behind 999"), api.ErrBound)
}

// calling is a function g that calls f with 3 more than an array's length, a list, an int of which nothing is known, and a closure: an application of that costs 2, and one of what it gives 1. In certificates of f, 0 is the int, 1 the list, 2 the value of a type variable, 3 the closure, 4 and 5 its costs; in those of g 0 is the list and 1 the array. The closure has 2 words.
const calling = `fun f 1 1 1 {0} (int (d0 int) v0 (-> int (-> int int {e0}) {e0})) int [end @0; value 0];
 fun g 0 1 0 {0} ((d0 int) (array int)) int [10 int := int #3; 11 int := len 1; 12 int := add 11 10; 13 int := mul 11 11;
 14 (-> int (-> int int {0}) {0}) := fn @0 [bind 15; 16 (-> int int {0}) := fn @0 [bind 17; 18 (ref int) := ref 17 @0; value 17]; value 16];
 19 int := call .0 (int) @0 {0} keep 12 0 13 14; end @0; value 19]; `

// TestArguments: what the variables of a callee's certificate stand for.
func TestArguments(t *testing.T) {
	p := program(t, calling+someMain)
	for peak, want := range map[string]string{
		"":          "2",
		"5":         "7",
		"1*0":       "5 1*1",
		"1*0.0":     "5 3*1 1*1.1",
		"2*1":       "2 2*0",
		"1*1.1":     "2 1*0.0",
		"7*3":       "2",
		"1*4":       "4",
		"10*5":      "12",
		"1*0.1 1*4": "4 3*0 1*0.1",
	} {
		isJust(t, p, want, func(text string) []api.Cert {
			return certsOf(p, "f; peak "+peak+"; growth\ng; peak "+text+"; growth 2\nmain; peak")
		})
	}
	much := plenty(2, 1<<40)
	for _, text := range []string{"peak 1*2; growth", "peak; growth 1*2", "peak 1*0.2; growth", "peak 1*0.0 1*2.2; growth"} {
		verifiedIs(t, p, certsOf(p, "f; "+text+"\ng; peak "+much+"; growth "+much+"\nmain; peak"), api.ErrBound)
	}
	// The size is not known where something unknown stands in it; the certificates hold all the same.
	for more, want := range map[string]string{
		"":      "3 1*1",
		"4":     "7 1*1",
		"1*1":   "3 1*0 1*1",
		"1*0.1": "3 3*0 1*1 1*0.1",
		"1*5":   "4 1*1",
		"1*2":   "?",
	} {
		isJust(t, p, want, func(text string) []api.Cert {
			return certsOf(p, "f; peak; growth; size 1*0 "+more+"\ng; peak "+much+"; growth 2; size "+text+"\nmain; peak")
		})
		verifiedIs(t, p, certsOf(p, "f; peak; growth; size 1*0 "+more+"\ng; peak 2; growth 2\nmain; peak"), api.OK)
	}
}

// TestMissingCosts: costs that are not known are unknown at a call, from the first such level on.
func TestMissingCosts(t *testing.T) {
	const two = "(-> int (-> int int {0}) {0})"
	const f = "fun f 0 1 1 {0} ((-> int (-> int int @0 {e0}) @0 {e0})) (-> int (-> int int @0 {e0}) @0 {e0}) [end @0; value 0]; "
	const inner = "1 (-> int int {0}) := fn @0 [bind 2; value 2]; 3 (ref (-> int int {0})) := ref 1 @0; "
	// The first level of 4 is known, 0, but what it gives is read out of a ref.
	const g = f + "fun g 0 1 0 {0} (int) " + two + " [" + inner + "4 " + two + " := fn @0 [bind 5; 6 (-> int int {0}) := deref 3; value 6]; 7 " + two + " := call .0 @0 {0} keep 4; end @0; value 7];"
	p := program(t, g+someMain)
	for text, want := range map[string]api.Errno{
		"peak; growth; calls 1*1; calls 1*2\ng; peak 4; growth 4; calls":               api.OK,
		"peak; growth; calls 1*1; calls 1*2\ng; peak 4; growth 4":                      api.OK,
		"peak; growth; calls 1*1; calls 1*2\ng; peak 4; growth 4; calls; calls":        api.ErrBound,
		"peak; growth; calls 1*1; calls 1*2\ng; peak 4; growth 4; calls; calls plenty": api.ErrBound,
		"peak; growth; calls 1*1 5; calls 1*2\ng; peak 4; growth 4; calls 5":           api.OK,
		"peak; growth; calls 1*1 5; calls 1*2\ng; peak 4; growth 4; calls 4":           api.ErrBound,
		"peak; growth; calls 1*1 1*2; calls 1*2\ng; peak 4; growth 4; calls plenty":    api.ErrBound,
		"peak; growth; calls 1*1 1*2; calls 1*2\ng; peak 4; growth 4":                  api.OK,
		"peak; growth; calls 1*1\ng; peak 4; growth 4; calls":                          api.OK,
		"peak; growth; calls 1*1\ng; peak 4; growth 4; calls; calls plenty":            api.ErrBound,
		"peak; growth; calls\ng; peak 4; growth 4":                                     api.ErrBound,
		"peak; growth; calls 1*1; calls\ng; peak 4; growth 4":                          api.ErrBound,
		"peak 1*1; growth 1*1.1\ng; peak 4; growth 4":                                  api.OK,
		"peak 1*2; growth\ng; peak plenty; growth plenty":                              api.ErrBound,
		"peak; growth 1*2\ng; peak plenty; growth plenty":                              api.ErrBound,
	} {
		verifiedIs(t, p, certsOf(p, "f; "+text+"\nmain; peak"), want)
	}
}
