package code_test

import (
	"reflect"
	"slices"
	"testing"

	"heriot/code"
	"heriot/samples"
)

// TestRead: what is read of bytes, and that it is written as these.
func TestRead(t *testing.T) {
	text := `HRO 3 7 [('a 1 3 2 [0 1] [[(try [0] [(3 1 3) (0 2 4)]) (call 2 7 [0] [(1 1) (0 0)]) (switch 1 [(3 []) (4 [0 2])]) (load 0 #-9) (return 0)] [(close 1 0 1 [2] [1]) (make 2 1 300 [0 0]) (raise 3 0)]])] [(3 'no)] 1`
	object := samples.Bytes(text)
	o, ok := code.ReadObject(object)
	want := &code.Object{Unit: 3, Ahead: 7, Main: 1, Exns: []code.Exception{{Number: 3, Name: "no"}}, Funs: []code.Function{{Name: "a", Params: 1, Registers: 3, Regions: 2, Touch: []int{0, 1}, Codes: [][]code.Instruction{
		{
			{Op: code.Try, Lists: &code.Lists{Regions: []int{0}, Arms: []code.Arm{{Exn: 3, Register: 1, To: 3}, {Register: 2, To: 4}}}},
			{Op: code.Call, R: 2, N: 7, Lists: &code.Lists{Registers: []int{0}, Pairs: []code.Pair{{Region: 1, Mode: 1}, {}}}},
			{Op: code.Switch, A: 1, Lists: &code.Lists{Cases: []code.Case{{To: 3}, {To: 4, Registers: []int{0, 2}}}}},
			{Op: code.Load, Int: -9},
			{Op: code.Return},
		},
		{
			{Op: code.Close, R: 1, N: 1, Lists: &code.Lists{Registers: []int{2}, Regions: []int{1}}},
			{Op: code.Make, R: 2, H: 1, N: 300, Lists: &code.Lists{Registers: []int{0, 0}}},
			{Op: code.Raise, N: 3},
		},
	}}}}
	if !ok || !reflect.DeepEqual(o, want) {
		t.Errorf("%+v", o)
	}
	if !slices.Equal(want.Bytes(), object) {
		t.Errorf("%v, not %v", want.Bytes(), object)
	}
}

// TestAgain: an image is written as it was read.
func TestAgain(t *testing.T) {
	for seed := range 500 {
		image := samples.Bytes(samples.Image(seed))
		m, ok := code.ReadImage(image)
		if !ok || !slices.Equal(m.Bytes(), image) {
			t.Fatalf("%d: %v, %v", seed, ok, samples.Image(seed))
		}
		if len(code.Named(m.Funs)) != len(m.Exns) {
			t.Fatalf("%d: %v", seed, m.Exns)
		}
	}
}
