package machine_test

import (
	"strings"
	"testing"

	"heriot/api"
	"heriot/samples"
)

// codeIs looks at whether a function with some head and codes is well-formed, in an image and in an object.
func codeIs(t *testing.T, want bool, head, codes string) {
	t.Helper()
	text := "[('main " + head + " [" + codes + "]) ('two 1 1 2 [0 1] [[(raise 0 0)]])] "
	exns := "[(3 'no)]"
	if !strings.Contains(codes, "raise 3") {
		exns = "[]"
	}
	if got := isImage(t, samples.Bytes("HRI "+text+exns+" 0")); got != want {
		t.Errorf("an image: %v, not %v: %s %s", got, want, head, short(codes))
	}
	if got := isObject(t, samples.Bytes("HRO 0 0 "+text+exns+" 1")); got != want {
		t.Errorf("an object: %v, not %v: %s %s", got, want, head, short(codes))
	}
}

func short(text string) string { return text[:min(len(text), 300)] }

// TestOperands: each operand of each op, at its bound and beyond it. The function has 4 registers, 3 names of regions and 3 codes.
func TestOperands(t *testing.T) {
	t.Parallel()
	const head, others = "1 4 3 []", " [(return 0)] [(return 0)]"
	for _, c := range []struct{ right, wrong string }{
		{"load 3 #5", "load 4 #5"},
		{"move 3 3", "move 4 0|move 0 4"},
		{"make 3 2 99999999999 [3 0 3]", "make 4 2 0 []|make 3 3 0 []|make 3 2 0 [0 4]"},
		{"cell 3 2 [3]", "cell 4 2 []|cell 3 3 []|cell 3 2 [0 4]"},
		{"field 3 3 99999999999", "field 4 3 0|field 3 4 0"},
		{"write 3 3", "write 4 0|write 0 4"},
		{"close 3 2 2 [3] [2 0 2]", "close 4 2 2 [3] []|close 3 3 2 [3] []|close 3 2 0 [3] []|close 3 2 3 [3] []|close 3 2 2 [] []|close 3 2 2 [0 4] []|close 3 2 2 [0] [1 3]"},
		{"apply 3 3 3", "apply 4 3 3|apply 3 4 3|apply 3 3 4"},
		{"call 3 0 [3] []", "call 4 0 [3] []|call 3 2 [3] []|call 3 0 [4] []|call 3 0 [] []|call 3 0 [3 3] []|call 3 0 [3] [(0 0)]"},
		{"call 3 1 [3] [(2 0) (2 1)]", "call 3 1 [3] [(2 0) (3 1)]|call 3 1 [3] [(2 0) (2 2)]|call 3 1 [3] [(2 0)]|call 3 1 [3] [(2 0)(1 0)(0 0)]|call 3 1 [] [(2 0) (2 1)]"},
		{"array 3 2 3 3", "array 4 2 3 3|array 3 3 3 3|array 3 2 4 3|array 3 2 3 4"},
		{"at 3 3 3", "at 4 3 3|at 3 4 3|at 3 3 4"},
		{"put 3 3 3", "put 4 3 3|put 3 4 3|put 3 3 4"},
		{"len 3 3", "len 4 3|len 3 4"},
		{"raise 3 3", "raise 3 4"},
		{"try [0 2] [(0 3 1) (2 3 2) (1 0 1)]", "try [0 3] []|try [0 0] []|try [2 0] []|try [] [(0 4 1)]|try [] [(0 3 0)]|try [] [(0 3 3)]|try [] [(0 3 1)(0 2 2)]|try [] [(0 3 1)(1 3 1)(0 3 1)]"},
		{"untry", ""},
		{"print 3", "print 4"},
		{"add 3 3 3", "add 4 3 3|add 3 4 3|add 3 3 4"}, {"sub 3 3 3", "sub 4 3 3|sub 3 4 3|sub 3 3 4"}, {"mul 3 3 3", "mul 4 3 3|mul 3 4 3|mul 3 3 4"}, {"div 3 3 3", "div 4 3 3|div 3 4 3|div 3 3 4"},
		{"mod 3 3 3", "mod 4 3 3|mod 3 4 3|mod 3 3 4"}, {"eq 3 3 3", "eq 4 3 3|eq 3 4 3|eq 3 3 4"}, {"less 3 3 3", "less 4 3 3|less 3 4 3|less 3 3 4"},
		{"branch 3 1", "branch 4 1|branch 3 0|branch 3 3"}, {"branch 3 2", ""},
		{"switch 3 [(1 [3 3]) (2 [])]", "switch 4 []|switch 3 [(0 [])]|switch 3 [(3 [])]|switch 3 [(1 [4])]|switch 3 [(1 []) (2 [0 4])]"}, {"switch 3 []", ""},
		{"jump 1", "jump 0|jump 3|jump 9223372036854775807"}, {"jump 2", ""},
		{"new 2", "new 3"}, {"end 2", "end 3"}, {"return 3", "return 4"},
	} {
		codeIs(t, true, head, "[("+c.right+") (load 0 #1) (return 0)]"+others)
		codeIs(t, true, head, "[(return 0)] [("+c.right+") (load 0 #1) (return 0)] [(return 0)]")
		if c.wrong == "" {
			continue
		}
		for _, wrong := range strings.Split(c.wrong, "|") {
			codeIs(t, false, head, "[("+wrong+") (load 0 #1) (return 0)]"+others)
			codeIs(t, false, head, "[(return 0)] [(return 0)] [("+wrong+") (load 0 #1) (return 0)]")
		}
	}
}

// TestCodes: how a code ends, and how long it is.
func TestCodes(t *testing.T) {
	t.Parallel()
	const head = "1 1 0 []"
	codeIs(t, true, head, "[(return 0)]")
	codeIs(t, true, head, "[(raise 0 0)]")
	codeIs(t, false, head, "")
	codeIs(t, false, head, "[]")
	codeIs(t, false, head, "[(return 0)] []")
	codeIs(t, false, head, "[(print 0)]")
	codeIs(t, false, head, "[(return 0) (print 0)]")
	codeIs(t, false, head, "[(jump 1)]")
	codeIs(t, false, head, "[(return 0)] [(return 0) (untry)]")
	codeIs(t, false, head, "[(30 0)]")
	codeIs(t, false, head, "[(127 0) (return 0)]")
	codeIs(t, false, head, "[(128 0) (return 0)]")
	codeIs(t, true, head, "["+strings.Repeat("untry ", 16*api.MaxNodes-1)+"(return 0)]")
	codeIs(t, false, head, "["+strings.Repeat("untry ", 16*api.MaxNodes)+"(return 0)]")
	codeIs(t, true, head, strings.Repeat("[(return 0)]", api.MaxNodes))
	codeIs(t, false, head, strings.Repeat("[(return 0)]", api.MaxNodes+1))
	// An op is one byte: a number of two bytes is none, even if it would be one.
	image := samples.Bytes("HRI [('main 1 1 0 [] [[(return 0)]])] [] 0")
	isImage(t, append(append(image[:len(image)-4:len(image)-4], 157, 0), image[len(image)-3:]...))
}

// TestHeads: the numbers of parameters, of registers and of names of regions, and the Touch.
func TestHeads(t *testing.T) {
	t.Parallel()
	for head, want := range map[string]bool{
		"0 1 0 []": true, "1 1 0 []": true, "2 1 0 []": false, "4 4 0 []": true, "0 16384 16384 []": true, "0 16385 0 []": false, "0 1 16385 []": false,
		"0 9223372036854775807 0 []": false, "0 1 9223372036854775807 []": false, "9223372036854775807 1 0 []": false,
	} {
		codeIs(t, want, head, "[(raise 0 0)]")
	}
	for head, want := range map[string]bool{
		"5 5 3 [0 2]": true, "5 5 3 [0 1 2]": true, "5 5 3 [2]": true, "5 5 3 [3]": false, "5 5 3 [0 3]": false, "5 5 3 [1 0]": false, "5 5 3 [1 1]": false, "16384 16384 16384 [16383]": true,
		"6 5 3 [0 2]": false, "16385 16385 0 []": false,
	} {
		if got := isImage(t, samples.Bytes("HRI [('main 0 1 0 [] [[(raise 0 0)]]) ('two "+head+" [[(raise 0 0)]])] [] 0")); got != want {
			t.Errorf("%s: %v, not %v", head, got, want)
		}
		if got := isObject(t, samples.Bytes("HRO 0 0 [('two "+head+" [[(raise 0 0)]])] [] 0")); got != want {
			t.Errorf("%s: %v, not %v", head, got, want)
		}
	}
}

// TestWholes: what an image and an object are beside their functions.
func TestWholes(t *testing.T) {
	t.Parallel()
	const one = "('one 4 4 1 [] [[(raise 0 0)]])"
	for text, want := range map[string]bool{
		"HRI [" + one + "] [] 0": true, "HRI [" + one + "] [] 1": false, "HRI [" + one + one + "] [] 1": true, "HRI [] [] 0": false,
		"HRI [('' 4 4 1 [] [[(raise 0 0)]])] [] 0":   true,
		"HRI [('one 5 5 1 [] [[(raise 0 0)]])] [] 0": false, "HRI [('one 0 4 1 [0] [[(raise 0 0)]])] [] 0": false,
		"HRI [('one 5 5 1 [0] [[(raise 0 0)]])" + one + "] [] 1":                                                true,
		"HRI [" + one + "] [(3 'no)] 0":                                                                         false,
		"HRI [('one 4 4 1 [] [[(raise 3 0)]])] [] 0":                                                            false,
		"HRI [('one 4 4 1 [] [[(raise 3 0)]])] [(3 'no)] 0":                                                     true,
		"HRI [('one 4 4 1 [] [[(raise 3 0)]])] [(4 'no)] 0":                                                     false,
		"HRI [('one 4 4 1 [] [[(raise 3 0)]])] [(3 'no)(4 'no)] 0":                                              false,
		"HRI [('one 4 4 1 [] [[(raise 16383 0)]])] [(16383 'no)] 0":                                             true,
		"HRI [('one 4 4 1 [] [[(raise 16384 0)]])] [(16384 'no)] 0":                                             false,
		"HRI [('one 4 4 1 [] [[(try [] [(4 0 1) (3 0 1) (1 0 1)]) (raise 4 0)]])] [(3 'no)(4 'no)] 0":           true,
		"HRI [('one 4 4 1 [] [[(try [] [(4 0 1) (3 0 1) (1 0 1)]) (raise 4 0)]])] [(4 'no)(3 'no)] 0":           false,
		"HRI [('one 4 4 1 [] [[(try [] [(4 0 1) (3 0 1) (1 0 1)]) (raise 4 0)]])] [(3 'no)(4 'no)(4 'no)] 0":    false,
		"HRI [('one 4 4 1 [] [[(try [] [(4 0 1) (3 0 1) (1 0 1)]) (raise 4 0)]])] [(3 'no)(3 'no)(4 'no)] 0":    false,
		"HRI [('one 4 4 1 [] [[(try [] [(4 0 1) (3 0 1) (1 0 1)]) (raise 4 0)]])] [(1 'Index)(3 'no)(4 'no)] 0": false,
		"HRI [('one 4 4 1 [] [[(raise 0 0)] [(raise 3 0)]])] [(3 'no)] 0":                                       true,
		"72 82 73 1 [" + one + "] [] 0":                                                                         true, "72 82 73 0 [" + one + "] [] 0": false, "72 82 79 1 [" + one + "] [] 0": false, "72 83 73 1 [" + one + "] [] 0": false, "73 82 73 1 [" + one + "] [] 0": false,
	} {
		if got := isImage(t, samples.Bytes(text)); got != want {
			t.Errorf("%s: %v, not %v", text, got, want)
		}
	}
	for text, want := range map[string]bool{
		"HRO 0 0 [] [] 0": true, "HRO 15 9223372036854775807 [] [] 0": true, "HRO 16 0 [] [] 0": false, "HRO 9223372036854775807 0 [] [] 0": false, "HRO 0 0 [] [] 1": false,
		"HRO 0 0 [" + one + "] [] 1": true, "HRO 0 0 [" + one + "] [] 2": false, "HRO 0 0 [" + one + one + "] [] 2": true, "HRO 0 0 [" + one + "] [] 9223372036854775807": false,
		"HRO 0 0 [('one 9 9 1 [0] [[(raise 0 0)]])] [] 1":               true, // whether it can be main is asked by Link
		"HRO 0 0 [" + one + "] [(3 'no)] 0":                             false,
		"HRO 0 0 [('one 4 4 1 [] [[(raise 16383 0)]])] [(16383 'no)] 0": true,
		"HRO 0 0 [('one 4 4 1 [] [[(raise 16384 0)]])] [(16384 'no)] 0": false,
		"HRO 0 0 [('one 4 4 1 [] [[(raise 4 0)]])] [] 0":                false,
		"72 82 79 1 0 0 [] [] 0":                                        true, "72 82 79 2 0 0 [] [] 0": false, "72 82 73 1 0 0 [] [] 0": false,
	} {
		if got := isObject(t, samples.Bytes(text)); got != want {
			t.Errorf("%s: %v, not %v", text, got, want)
		}
	}
}

// TestWrongNumbers: numbers and ints with more bytes than they need, and those that are too great.
func TestWrongNumbers(t *testing.T) {
	t.Parallel()
	const nines = "255 255 255 255 255 255 255 255 "
	for bytes, want := range map[string]bool{
		"0": true, "127": true, "128 0": false, "128 1": true, "129 128 0": false, "255 127": true, "255 255 127": true, "128": false, "128 128": false, "128 128 128 128 128 128 128 128 128 1": true,
		nines + "255 0": false, nines + "255 1": true, nines + "255 2": false, nines + "255 127": false, nines + "255 129 0": false, nines + "255 128 1": false, nines + "127": true,
		"128 128 128 128 128 128 128 128 128 0": false, "128 128 128 128 128 128 128 128 0": false, "129 128 128 128 128 128 128 128 128 128 1": false,
	} {
		if got := isImage(t, slotted("HRI [('main 0 1 0 [] [[(load 0 77) (return 0)]])] [] 0", bytes)); got != want {
			t.Errorf("the int %s: %v, not %v", bytes, got, want)
		}
	}
	for bytes, want := range map[string]bool{
		"0": true, "127": true, "128 0": false, "128 1": true, "255 127": true, "128": false, nines + "127": true, nines + "255 0": false, nines + "255 1": false, nines + "0": false, nines + "128 1": false, nines + "255 127": false,
	} {
		if got := isImage(t, slotted("HRI [('main 0 1 1 [] [[(load 0 #0) (field 0 0 77) (return 0)]])] [] 0", bytes)); got != want {
			t.Errorf("the number %s: %v, not %v", bytes, got, want)
		}
		if got := isObject(t, slotted("HRO 0 77 [] [] 0", bytes)); got != want {
			t.Errorf("the number %s: %v, not %v", bytes, got, want)
		}
	}
	// Lists and texts that are longer than what there is.
	for bytes, want := range map[string]bool{"3": true, "2": false, "4": false, "127": false, "128 1": false, nines + "127": false, nines + "255 1": false, "131 0": false} {
		if got := isImage(t, slotted("HRI [(77 102 102 102 0 1 0 [] [[(load 0 #0) (return 0)]])] [] 0", bytes)); got != want {
			t.Errorf("a text of %s: %v, not %v", bytes, got, want)
		}
		if got := isImage(t, slotted("HRI [('main 3 3 1 [] [[(cell 0 0 77 0 1 2) (return 0)]])] [] 0", bytes)); got != want {
			t.Errorf("a list of %s: %v, not %v", bytes, got, want)
		}
	}
}

// slotted is what a notation stands for with other bytes in the place of a number 77.
func slotted(text, bytes string) []byte {
	at := strings.Index(text, "77")
	var own []byte
	for _, word := range strings.Fields(bytes) {
		n := 0
		for _, digit := range word {
			n = 10*n + int(digit-'0')
		}
		own = append(own, byte(n))
	}
	// The list that has the place counts its elements by the text.
	whole := samples.Bytes(text)
	front := len(samples.Bytes(balanced(text[:at])))
	return append(append(append([]byte{}, whole[:front]...), own...), whole[front+1:]...)
}

// balanced is the begin of a notation, with what is open closed; this has no bytes, and a list is as long in bytes with any number of elements that is not great.
func balanced(text string) string {
	var open []byte
	for _, sign := range []byte(text) {
		switch sign {
		case '(', '[':
			open = append(open, sign)
		case ')', ']':
			open = open[:len(open)-1]
		}
	}
	for i := len(open) - 1; i >= 0; i-- {
		text += map[byte]string{'(': ")", '[': "]"}[open[i]]
	}
	return text
}
