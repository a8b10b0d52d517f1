package flat_test

import (
	"math"
	"strconv"
	"strings"
	"testing"
	"time"

	"heriot/api"
	"heriot/flat"
	"heriot/samples"
)

// TestDocumentRuns: the examples of the chapter, and of the document, that are about runs.
func TestDocumentRuns(t *testing.T) {
	const identity = "fun main (int) int [value 0]"
	checkRun(t, identity, []int64{5}, plenty, answers(5, 0))
	checkRun(t, identity, nil, plenty, stuck)
	checkRun(t, identity, []int64{5, 6}, plenty, stuck)
	checkRun(t, "fun main (int) int [1 int := int #0; 2 int := div 0 1; value 2]", []int64{7}, plenty, raises("Div", 0, 0))
	checkRun(t, "fun main (int) int [4 int := handle [1 int := int #0; 2 int := div 0 1; value 2] [bind 3; value 3] [exn 0; bind 5; value 5]; value 4]", []int64{7}, plenty, answers(0, 0))
	const forever = "fun f (int) int [1 int := call .2 0; value 1]; fun main (int) int [1 int := call .2 0; value 1]"
	checkRun(t, forever, []int64{7}, 10, spends(10))
	checkRun(t, forever, []int64{7}, plenty, spends(api.MaxFuel))
	checkRun(t, forever, []int64{7}, -1, spends(0))
	const twice = `fun twice 1 ((-> v0 v0)) (-> v0 v0) [4 (-> v0 v0) := fn [bind 1; 2 v0 := apply 0 1; 3 v0 := apply 0 2; value 3]; value 4];
	 fun main (int) int [3 (-> int int) := fn [bind 1; 2 int := add 1 0; value 2]; 4 (-> int int) := call .2 (int) 3; 5 int := int #1; 6 int := apply 4 5; value 6]`
	checkRun(t, twice, []int64{20}, 4, answers(41, 4))
	checkRun(t, twice, []int64{20}, 3, spends(3))
}

// TestNotValid: a program that is not flat is stuck, with nothing else.
func TestNotValid(t *testing.T) {
	for _, text := range []string{
		"fun main (int) bool [1 unit := print 0; 2 bool := bool; value 2]",
		"fun main (int) int [1 unit := print 0; value 1]",
		"fun main (int) int [1 unit := print 0; 2 int := int 5; value 0]",
		"fun f (int) int [value 1]; fun main (int) int [1 unit := print 0; value 0]",
		"fun main (int int int int int) int [value 0]",
		"fun main (int) int [new @0; 1 unit := print 0; end @0; value 0]",
	} {
		for args := range 6 {
			if got := flat.Run(samples.Program(text), make([]int64, args), plenty); !isSame(got, stuck) {
				t.Errorf("%s: %+v", text, got)
			}
		}
	}
	if got := flat.Run(api.Program{}, nil, plenty); !isSame(got, stuck) {
		t.Errorf("%+v", got)
	}
}

// TestNumbers: ints wrap, and divisions round towards zero.
func TestNumbers(t *testing.T) {
	const least, most = math.MinInt64, math.MaxInt64
	for _, c := range []struct {
		op         string
		a, b, want int64
	}{
		{"add", most, 1, least}, {"sub", least, 1, most}, {"mul", least, -1, least}, {"mul", 1 << 62, 4, 0},
		{"div", -7, 2, -3}, {"div", 7, -2, -3}, {"mod", -7, 2, -1}, {"mod", 7, -2, 1}, {"div", least, -1, least}, {"mod", least, -1, 0},
	} {
		checkRun(t, "fun main (int int) int [2 int := "+c.op+" 0 1; value 2]", []int64{c.a, c.b}, 0, answers(c.want, 0))
	}
	for _, c := range []struct {
		op   string
		a, b int64
		want int64
	}{
		{"eq", 3, 3, 1}, {"eq", least, most, 0}, {"less", least, most, 1}, {"less", 3, 3, 0}, {"less", most, least, 0},
	} {
		checkRun(t, "fun main (int int) int [2 bool := "+c.op+" 0 1; 5 int := if 2 [3 int := int #1; value 3] [4 int := int; value 4]; value 5]", []int64{c.a, c.b}, 0, answers(c.want, 0))
	}
	checkRun(t, "fun main (int) int [1 unit := print 0; 2 int := sub 0 0; 3 int := mod 0 2; value 3]", []int64{5}, 0, raises("Div", 0, 0, 5))
}

// TestShared: refs and arrays are the same for all that have them; a closure has the variables as they are where it is made.
func TestShared(t *testing.T) {
	checkRun(t, "fun main (int) int [1 (ref int) := ref 0; 2 (* (ref int) (ref int)) := tuple 1 1; 3 (ref int) := get #0 2; 4 (ref int) := get #1 2; 5 int := add 0 0; 6 unit := set 3 5; 7 int := deref 4; value 7]",
		[]int64{4}, 0, answers(8, 0))
	checkRun(t, "fun main (int) int [1 (array int) := array 0 0; 2 (ref (array int)) := ref 1; 3 int := int #1; 4 (array int) := deref 2; 5 unit := put 4 3 3; 6 int := at 1 3; 7 int := int; 8 int := at 1 7; 9 int := add 6 8; value 9]",
		[]int64{3}, 3, answers(4, 3))
	// Each round has its own variables, though the text is the same.
	const rounds = `fun loop (int (-> unit int)) int [2 bool := eq 0 0; 3 int := int; 4 bool := less 3 0; 14 int := if 4
	 [7 (-> unit int) := fn [bind 5; 6 unit := unit; 8 int := apply 1 6; 9 int := add 8 0; value 9]; 10 int := int #1; 11 int := sub 0 10; 12 int := call .2 11 7; value 12]
	 [13 unit := unit; 15 int := apply 1 13; value 15]; value 14];
	 fun main (int) int [2 (-> unit int) := fn [bind 1; 3 int := int #100; value 3]; 4 int := call .2 0 2; value 4]`
	checkRun(t, rounds, []int64{4}, plenty, answers(110, 10))
	// Lambdas in lambdas take what is around both, and parameters hide nothing: variables are told apart by their numbers.
	const nested = `fun main (int int) int [9 (-> int (-> int (-> int int))) := fn [bind 2; 8 (-> int (-> int int)) := fn [bind 3; 4 int := mul 3 0; 7 (-> int int) := fn [bind 5; 6 int := sub 5 4; 10 int := mul 6 2; 11 int := add 10 1; value 11]; value 7]; value 8];
	 12 (-> int (-> int int)) := apply 9 0; 13 (-> int int) := apply 12 1; 15 int := int #7; 14 int := apply 13 15; value 14]`
	checkRun(t, nested, []int64{3, 5}, 3, answers(3*(7-15)+5, 3))
}

// TestArrays: how many elements an array may have, and which elements there are.
func TestArrays(t *testing.T) {
	const make = "fun main (int int) int [2 (array int) := array 0 1; 3 int := len 2; 4 int := at 2 1; 5 unit := put 2 1 3; 6 int := at 2 1; value 6]"
	for _, c := range []struct {
		size, i int64
		fuel    int
		want    api.Result
	}{
		{3, 2, 3, answers(3, 3)},
		{3, 0, plenty, answers(3, 3)},
		{3, 2, 2, spends(2)},
		{3, 3, 3, raises("Index", 3, 3)},
		{3, -1, 3, raises("Index", -1, 3)},
		{3, math.MinInt64, 3, raises("Index", math.MinInt64, 3)},
		{3, 1 << 32, 3, raises("Index", 1<<32, 3)},
		{0, 0, 0, raises("Index", 0, 0)},
		{-1, 0, 0, raises("Size", -1, 0)},
		{4096, 4095, 4096, answers(4096, 4096)},
		{4096, 4095, 4095, spends(4095)},
		{4097, 0, 0, raises("Size", 4097, 0)},
		{math.MaxInt64, 0, 9, raises("Size", math.MaxInt64, 0)},
	} {
		checkRun(t, make, []int64{c.size, c.i}, c.fuel, c.want)
	}
	checkRun(t, "fun main (int int) int [2 (array int) := array 1 1; 3 unit := put 2 0 0; value 0]", []int64{2, 2}, 9, raises("Index", 2, 2))
}

// TestExceptionRuns: where an exception goes to.
func TestExceptionRuns(t *testing.T) {
	// thrower raises exception 3 if its parameter is below 1, else 4, with it, behind a print.
	const thrower = "fun thrower (int) int [1 unit := print 0; 2 int := int #1; 3 bool := less 0 2; 6 int := if 3 [4 int := raise .3 0; value 4] [5 int := raise .4 0; value 5]; 7 unit := print 0; value 6]; "
	for _, c := range []struct {
		main string
		arg  int64
		want api.Result
	}{
		{"[1 int := call .2 0; value 1]", 5, raises("why", 5, 1, 5)},
		{"[1 int := call .2 0; value 1]", 0, raises("no", 0, 1, 0)},
		{"[9 int := handle [1 int := call .2 0; value 1] [bind 2; 3 int := int; value 3] [exn 4; bind 4; 5 int := add 4 4; value 5]; value 9]", 5, answers(10, 1, 5)},
		{"[9 int := handle [1 int := call .2 0; value 1] [bind 2; 3 int := int; value 3] [exn 4; bind 4; 5 int := add 4 4; value 5]; value 9]", 0, raises("no", 0, 1, 0)},
		{"[9 int := handle [1 int := call .2 0; value 1] [bind 2; 3 int := int; value 3] [exn 4; bind 4; value 0] [exn 3; bind 5; 6 int := int #77; value 6]; value 9]", 0, answers(77, 1, 0)},
		// The inner one of two.
		{"[9 int := handle [8 int := handle [1 int := call .2 0; value 1] [bind 2; value 2] [exn 4; bind 3; 4 int := int #2; value 4]; value 8] [bind 5; value 5] [exn 4; bind 6; 7 int := int #3; value 7]; value 9]", 5, answers(2, 1, 5)},
		// The outer one, if the inner one has no arm.
		{"[9 int := handle [8 int := handle [1 int := call .2 0; value 1] [bind 2; value 2] [exn 1; bind 3; 4 int := int #2; value 4]; 10 unit := print 0; value 8] [bind 5; value 5] [exn 4; bind 6; 7 int := int #3; value 7]; value 9]", 5, answers(3, 1, 5)},
		// What an arm, or the block behind the body, raises is not handled by the same handle.
		{"[9 int := handle [1 int := call .2 0; value 1] [bind 2; value 2] [exn 4; bind 3; 4 int := int; 5 int := call .2 4; value 5] [exn 3; bind 6; value 6]; value 9]", 5, raises("no", 0, 2, 5, 0)},
		{"[9 int := handle [value 0] [bind 2; 1 int := call .2 2; value 1] [exn 4; bind 3; value 3]; value 9]", 5, raises("why", 5, 1, 5)},
		// What has been done stays.
		{"[10 (ref int) := ref 0; 9 int := handle [11 int := int #40; 12 unit := set 10 11; 1 int := call .2 0; value 1] [bind 2; value 2] [exn 4; bind 3; 4 int := deref 10; 5 int := add 4 3; value 5]; value 9]", 2, answers(42, 1, 2)},
		// In a closure's body, called where the handle is and where it is not.
		{"[10 (-> int int) := fn [bind 11; 12 int := call .2 11; value 12]; 9 int := handle [1 int := apply 10 0; value 1] [bind 2; value 2] [exn 4; bind 3; 4 int := int #8; value 4]; value 9]", 2, answers(8, 2, 2)},
		{"[9 (-> int int) := handle [13 (-> int int) := fn [bind 11; 12 int := call .2 11; value 12]; value 13] [bind 2; value 2] [exn 4; bind 3; 4 (-> int int) := raise .0 0; value 4]; 14 int := apply 9 0; value 14]", 2, raises("why", 2, 2, 2)},
		// A handle in a lambda, and in an arm of an if.
		{"[10 (-> int int) := fn [bind 11; 9 int := handle [12 int := call .2 11; value 12] [bind 2; value 2] [exn 4; bind 3; 4 int := int #8; value 4]; value 9]; 14 int := apply 10 0; value 14]", 2, answers(8, 2, 2)},
		{"[1 bool := less 0 0; 9 int := handle [8 int := if 1 [value 0] [7 int := if 1 [value 0] [6 int := call .2 0; value 6]; value 7]; value 8] [bind 2; value 2] [exn 4; bind 3; 4 int := int #8; value 4]; value 9]", 2, answers(8, 1, 2)},
		// The block behind the body may give something of another type.
		{"[9 int := handle [1 bool := bool #1; value 1] [bind 2; 5 int := if 2 [3 int := int #6; value 3] [4 int := int; value 4]; value 5] [exn 4; bind 6; value 6]; value 9]", 2, answers(6, 0)},
		{"[9 int := handle [1 bool := raise .4 0; value 1] [bind 2; 5 int := if 2 [3 int := int #6; value 3] [4 int := int; value 4]; value 5] [exn 4; bind 6; value 6]; value 9]", 2, answers(2, 0)},
	} {
		checkRun(t, thrower+"fun main (int) int "+c.main, []int64{c.arg}, plenty, c.want)
	}
	// No handle sees that the fuel is spent.
	const all = "fun f (int) int [1 int := call .2 0; value 1]; fun main (int) int [9 int := handle [1 int := call .2 0; value 1] [bind 2; value 2] [exn 0; bind 3; value 3] [exn 1; bind 4; value 4] [exn 2; bind 5; value 5]; 10 unit := print 0; value 9]"
	checkRun(t, all, []int64{1}, 100, spends(100))
}

// TestCaseRuns: the block of a constructor gets its fields.
func TestCaseRuns(t *testing.T) {
	const pick = "fun main (int) int [1 (d1) := make .NUM; 5 int := case 1 [2 int := int #10; value 2] [3 int := int #20; value 3] [4 int := int #30; value 4]; value 5]"
	for con := range 3 {
		checkRun(t, strings.ReplaceAll(pick, "NUM", strconv.Itoa(con)), []int64{0}, 0, answers(int64(con+1)*10, 0))
	}
	checkRun(t, "fun main (int int) int [2 (d2 int int) := make .0 0 1; 7 int := case 2 [bind 5 3; 6 int := sub 5 3; value 6]; value 7]", []int64{9, 2}, 0, answers(7, 0))
	checkRun(t, "fun main (int int) int [2 (d0 int) := make .0; 3 (d0 int) := make .1 0 2; 4 (d0 int) := make .1 1 3; 9 int := case 4 [value 0] [bind 5 6; 8 int := case 6 [value 5] [bind 10 7; 11 int := sub 5 10; value 11]; value 8]; value 9]", []int64{9, 2}, 0, answers(-7, 0))
}

// TestDeepRuns: calls may be nested as deep as there is fuel, each in as many blocks as there may be.
func TestDeepRuns(t *testing.T) {
	nested := "4 int := call .2 3; value 4"
	next := 5
	for range api.MaxDepth - 2 {
		inner := strconv.Itoa(next) + " int := handle [" + nested + "] [bind " + strconv.Itoa(next+1) + "; value " + strconv.Itoa(next+1) + "]"
		nested = inner + "; value " + strconv.Itoa(next)
		next += 2
	}
	program := "fun deep (int) int [1 int := int #1; 2 bool := less 0 1; 3 int := sub 0 1; " + strconv.Itoa(next) + " int := if 2 [5000 int := raise .4 0; value 5000] [" + nested + "]; value " + strconv.Itoa(next) + "];" +
		"fun main (int) int [1 int := call .2 0; value 1]"
	begin := time.Now()
	checkRun(t, program, []int64{api.MaxFuel - 1}, plenty, raises("why", 0, api.MaxFuel))
	checkRun(t, program, []int64{api.MaxFuel}, plenty, spends(api.MaxFuel))
	if took := time.Since(begin); took > time.Minute {
		t.Errorf("%v", took)
	}
}
