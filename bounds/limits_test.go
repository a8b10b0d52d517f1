package bounds_test

import (
	"fmt"
	"math"
	"slices"
	"strings"
	"testing"

	"heriot/api"
	"heriot/bounds"
)

// TestBeyond: what is beyond the bounds is not known, or refused.
func TestBeyond(t *testing.T) {
	// k gives an int of the size 2^50 times its first parameter, by what is said of it, and a closure that costs as much; d gives a tuple.
	const ahead = "fun k 0 1 0 {} (int (-> int int)) (-> int int) [value 1]; fun s 0 0 0 {} (int) int [value 0]; "
	inBlock := func(number, ahead2, value string) api.Program {
		return program(t, ahead+"fun f 0 1 0 {0} (int (-> int int)) int [2 int := int #"+number+"; 3 bool := less 2 0; "+ahead2+" 9 int := if 3 [end @0; value "+value+"] [8 int := int #0; end @0; value 8]; value 9];"+someMain)
	}
	says := func(p api.Program, k, s, f string) []api.Cert {
		return certsOf(p, "k; peak; calls 1*2 "+k+"\ns; peak; size "+s+"\nf; "+f+"\nmain; peak")
	}
	// A bound.
	size := func(number, s, f string, want api.Errno) {
		t.Helper()
		p := inBlock(number, "4 int := call .1 0;", "4")
		verifiedIs(t, p, says(p, "", s, "peak; growth"+f), want)
	}
	size("0", "1125899906842624*0", "; size 1125899906842624*0", api.OK)
	size("1", "562949953421312*0", "; size 562949953421312*0", api.OK)
	size("1", "562949953421312*0", "; size 562949953421311*0 1", api.ErrBound)
	size("1", "562949953421313*0", "", api.OK)
	size("1", "562949953421313*0", "; size 562949953421312*0", api.ErrBound)
	size("1", "1*0 1125899906842624*0.0.0", "", api.OK)
	// Costs, though nothing needs them; and the certificate's own polynomials.
	cost := func(number, k, f string, want api.Errno) {
		t.Helper()
		p := inBlock(number, "4 (-> int int) := call .0 @0 0 1;", "2")
		verifiedIs(t, p, says(p, k, "1*0", f), want)
	}
	cost("0", two50+"*0", "peak; growth", api.OK)
	cost("1", two50+"*0", "peak; growth", api.ErrBound)
	cost("1", "562949953421312*0", "peak; growth", api.OK)
	for _, poly := range []string{"peak POLY; growth", "peak; growth POLY", "peak; growth; size POLY"} {
		cost("0", "", strings.Replace(poly, "POLY", "1125899906842623*0.0", 1), api.OK)
		cost("1", "", strings.Replace(poly, "POLY", "562949953421312*0.0", 1), api.OK)
		cost("1", "", strings.Replace(poly, "POLY", "562949953421313*0.0", 1), api.ErrBound)
		cost("1", "", strings.Replace(poly, "POLY", two50+"*0.0", 1), api.ErrBound)
		cost("4095", "", strings.Replace(poly, "POLY", "98000*0.0.0", 1), api.OK)
		cost("4095", "", strings.Replace(poly, "POLY", "99000*0.0.0", 1), api.ErrBound)
	}
}

// TestBeyondCalls: what is put into a callee's polynomials.
func TestBeyondCalls(t *testing.T) {
	const ahead = "fun k 0 1 0 {} (int (-> int int)) (-> int int) [value 1]; fun s 0 0 0 {} (int) int [value 0]; "
	p := program(t, ahead+"fun f 0 1 0 {0} (int (-> int int)) int [4 int := call .1 0; 5 int := call .1 4; 6 (-> int int) := call .0 @0 5 1; end @0; value 5];"+someMain)
	for text, want := range map[string]api.Errno{
		"k; peak; calls 1*2\ns; peak; size 1*0 1*0.0\nf; peak; growth; size plenty":                                   api.ErrBound,
		"k; peak; calls 1*2\ns; peak; size 1*0 1*0.0\nf; peak; growth":                                                api.OK,
		"k; peak; calls 1*2 1*0\ns; peak; size 1*0 1*0.0\nf; peak; growth":                                            api.OK,
		"k; peak 1*0; calls 1*2\ns; peak; size 1*0 1*0.0\nf; peak plenty; growth":                                     api.ErrBound,
		"k; peak 1*0.0.0; calls 1*2\ns; peak; size 2*0\nf; peak 64*0.0.0 48*0.0 4*0; growth; size 4*0":                api.OK,
		"k; peak 1*0.0.0; calls 1*2\ns; peak; size 2*0\nf; peak 63*0.0.0 48*0.0 4*0; growth; size 4*0":                api.ErrBound,
		"k; peak 1*0.0.0; calls 1*2\ns; peak; size 2*0\nf; peak 64*0.0.0 47*0.0 4*0; growth; size 4*0":                api.ErrBound,
		"k; peak 1*0.0.0; calls 1*2\ns; peak; size 2*0\nf; peak 64*0.0.0 48*0.0 3*0; growth; size 4*0":                api.ErrBound,
		"k; peak; calls 1*2 1125899906842624*0\ns; peak; size 2*0\nf; peak; growth":                                   api.ErrBound,
		"k; peak; calls 1*2 1125899906842624*0\ns; peak; size 1*0\nf; peak; growth":                                   api.OK,
		"k; peak; calls 1125899906842624*2\ns; peak; size 1*0\nf; peak; growth":                                       api.OK,
		"k; peak; calls 1*2\ns; peak 1125899906842624; size 1*0\nf; peak 1125899906842624; growth":                    api.OK,
		"k; peak; calls 1*2\ns; peak 1125899906842624; size 1*0\nf; peak 1125899906842623 1125899906842624*0; growth": api.ErrBound,
		"k; peak; calls 1*2\ns; peak 2*0.0; size 1*0 1*0.0\nf; peak plenty; growth":                                   api.ErrBound,
		"k; peak; calls 1*2\ns; peak 1*0.0; size 1*0\nf; peak 1*0.0; growth; size 1*0":                                api.OK,
		"k; peak; calls 1*2\ns; peak; size 1*0 1125899906842624\nf; peak; growth; size 1*0 1125899906842624":          api.ErrBound,
		"k; peak; calls 1*2\ns; peak; size 1*0 562949953421312\nf; peak; growth; size 1*0 1125899906842624":           api.OK,
	} {
		verifiedIs(t, p, certsOf(p, strings.Replace(text, "plenty", plenty(3, 1<<49), 1)+"\nmain; peak"), want)
	}
	// What has grown, and all of it together.
	grows := program(t, "fun g 0 2 0 {0 1} (int) int [end @0; end @1; value 0]; fun f 0 2 0 {0 1} (int) int [1 int := call .0 @0 @1 keep keep 0; 2 int := call .0 @0 @1 keep keep 0; 3 (ref int) := ref 0 @0; end @0; end @1; value 0];"+someMain)
	for text, want := range map[string]api.Errno{
		"g; peak; growth 562949953421311; growth\nf; peak 1125899906842623; growth 1125899906842623; growth":                                 api.OK,
		"g; peak; growth 562949953421312; growth\nf; peak 1125899906842624; growth 1125899906842624; growth":                                 api.ErrBound,
		"g; peak; growth 562949953421313; growth\nf; peak 1125899906842624; growth 1125899906842624; growth":                                 api.ErrBound,
		"g; peak; growth 400000000000000; growth 400000000000000\nf; peak 1125899906842624; growth 1125899906842624; growth 800000000000000": api.ErrBound,
	} {
		verifiedIs(t, grows, certsOf(grows, text+"\nmain; peak"), want)
	}
}

// TestBeyondHeld: what is held is beyond the bounds, though nothing is compared with it.
func TestBeyondHeld(t *testing.T) {
	const grows = "fun g 0 1 0 {0} (int) int [end @0; value 0]; "
	mainIs(t, grows, "new @0; 1 int := call .0 @0 keep 0; 2 int := call .0 @0 keep 0; end @0; value 0", "g; peak; growth 562949953421312", "562949953421312")
	mainIs(t, grows, "new @0; 1 int := call .0 @0 keep 0; end @0; value 0", "g; peak; growth "+two50, "")
	p := program(t, grows+"fun main (int) int [new @0; 1 int := call .0 @0 keep 0; 2 int := call .0 @0 keep 0; end @0; value 0];")
	verifiedIs(t, p, certsOf(p, "g; peak; growth "+two50+"\nmain; peak "+two50), api.ErrBound)
}

// TestShapes: certificates of a wrong shape.
func TestShapes(t *testing.T) {
	p := program(t, "fun f 0 3 2 {0 2 e1} (int (-> int (-> int int @0 {e0}) @0 {e1})) (-> int (-> int int @0 {e0}) @0 {e1}) [end @0; end @2; value 1]; fun main (int int) int [value 0];")
	right := func() []api.Cert {
		return certsOf(p, "f 2; peak 1*2 5; growth 2*0; behind 1*1.3.4; size 1*1; calls 1*3; calls 1*4\nf; peak 3; growth; growth; behind; calls 1*2\nmain; peak 7*0.1 2")
	}
	verifiedIs(t, p, right(), api.OK)
	boundIs(t, p, right(), []int64{3, 4}, 86, api.OK)
	wrong := func(change func(list []api.Cert) []api.Cert) {
		t.Helper()
		certs := change(right())
		verifiedIs(t, p, certs, api.ErrCert)
		boundIs(t, p, certs, []int64{3, 4}, 0, api.ErrCert)
		if got := bounds.VerifyUnit(p, 0, certs); len(certs) > 2 && got != api.ErrCert {
			t.Errorf("VerifyUnit: %d: %+v", got, certs)
		}
	}
	first := func(change func(c *api.Cert)) {
		t.Helper()
		wrong(func(list []api.Cert) []api.Cert {
			change(&list[0])
			return list
		})
	}
	one := api.Term{Coef: 1, Pows: []int{0, 0, 0, 0, 0}}
	for _, fun := range []int{-1, 2, math.MaxInt, math.MinInt} {
		first(func(c *api.Cert) { c.Fun = fun })
	}
	for _, mine := range [][]int{{1}, {0, 0}, {2, 0}, {-1}, {3}, {0, 2}, {}, {2, 2}, {math.MaxInt}} {
		first(func(c *api.Cert) { c.Mine = mine })
	}
	for _, mine := range [][]int{{2, 0}, {0, 0}, {2, 2}, {0, 1}, {-1, 0}} {
		first(func(c *api.Cert) { *c = api.Cert{Fun: 0, Mine: mine, Behind: [][]api.Term{nil}} })
	}
	verifiedIs(t, p, append(right(), certsOf(p, "f 0 2; peak 1*2 1*3; behind")...), api.OK)
	first(func(c *api.Cert) { c.Growth = nil })
	first(func(c *api.Cert) { c.Growth = append(c.Growth, nil) })
	first(func(c *api.Cert) { c.Behind = nil })
	first(func(c *api.Cert) { c.Behind = append(c.Behind, nil) })
	first(func(c *api.Cert) { c.Calls = append(c.Calls, nil) })
	first(func(c *api.Cert) { c.Known = false })
	for _, terms := range [][]api.Term{
		{{Coef: 0, Pows: one.Pows}}, {{Coef: -1, Pows: one.Pows}}, {{Coef: math.MinInt64, Pows: one.Pows}}, {{Coef: 1<<50 + 1, Pows: one.Pows}}, {{Coef: math.MaxInt64, Pows: one.Pows}},
		{{Coef: 1}}, {{Coef: 1, Pows: make([]int, 4)}}, {{Coef: 1, Pows: make([]int, 6)}},
		{{Coef: 1, Pows: []int{0, 0, 4, 0, 0}}}, {{Coef: 1, Pows: []int{1, 1, 1, 1, 0}}}, {{Coef: 1, Pows: []int{0, -1, 0, 0, 0}}}, {{Coef: 1, Pows: []int{3, 0, -1, 1, 0}}}, {{Coef: 1, Pows: []int{math.MaxInt, math.MaxInt, 0, 0, 0}}}, {{Coef: 1, Pows: []int{math.MinInt, 0, 0, 0, 0}}},
		{one, {Coef: 2, Pows: []int{0, 0, 1, 0, 0}}, one}, {one, {Coef: 1 << 50, Pows: one.Pows}},
	} {
		first(func(c *api.Cert) { c.Peak = terms })
		first(func(c *api.Cert) { c.Growth[0] = terms })
		first(func(c *api.Cert) { c.Behind[0] = terms })
		first(func(c *api.Cert) { c.Size = terms })
		first(func(c *api.Cert) { c.Calls[1] = terms })
	}
	wrong(func(list []api.Cert) []api.Cert { return append(list, list[0]) })
	wrong(func(list []api.Cert) []api.Cert { return append(list, certsOf(p, "main; peak 9")...) })
	wrong(func(list []api.Cert) []api.Cert { return list[:2] })
	wrong(func(list []api.Cert) []api.Cert { return nil })
	// Without main's, a unit's certificates hold all the same.
	if got := bounds.VerifyUnit(p, 0, right()[:2]); got != api.OK {
		t.Errorf("VerifyUnit without main: %d", got)
	}
	// The greatest numbers are right.
	p = program(t, "fun main (int) int [value 0];")
	verifiedIs(t, p, []api.Cert{{Fun: 0, Peak: []api.Term{{Coef: 1 << 50, Pows: []int{3}}, {Coef: 1, Pows: []int{0}}}, Known: true, Size: []api.Term{{Coef: 1 << 50, Pows: []int{1}}}}}, api.OK)
}

// TestOrder: the error of Check comes ahead of ErrCert, that ahead of ErrBound.
func TestOrder(t *testing.T) {
	bad := []api.Cert{{Fun: 7}}
	for _, p := range []api.Program{{}, {Exns: []string{"Div", "Index", "Size"}, Main: -1}} {
		for _, certs := range [][]api.Cert{nil, bad, {{}}} {
			if got := bounds.Verify(p, certs); got != api.ErrShape {
				t.Errorf("Verify: %d", got)
			}
			if got := bounds.VerifyUnit(p, 0, certs); got != api.ErrShape {
				t.Errorf("VerifyUnit: %d", got)
			}
			boundIs(t, p, certs, nil, 0, api.ErrShape)
		}
		if certs, e := bounds.Find(p); certs != nil || e != api.ErrShape {
			t.Errorf("Find: %v %d", certs, e)
		}
		if counts, e := bounds.Finite(p); counts != nil || e != api.ErrShape {
			t.Errorf("Finite: %v %d", counts, e)
		}
	}
	p := program(t, "fun f 0 0 0 {} (int) int [new @0; 1 (ref int) := ref 0 @0; end @0; value 0]; fun main (int) int [value 0];")
	verifiedIs(t, p, certsOf(p, "f; peak\nmain; peak"), api.ErrBound)
	verifiedIs(t, p, append(certsOf(p, "f; peak\nmain; peak"), bad...), api.ErrCert)
	verifiedIs(t, p, certsOf(p, "f; peak"), api.ErrCert)
	boundIs(t, p, certsOf(p, "f; peak\nmain; peak"), nil, 0, api.ErrBound)
	boundIs(t, p, certsOf(p, "f; peak 1\nmain; peak"), nil, 0, api.ErrCert)
	boundIs(t, p, certsOf(p, "f; peak 1\nmain; peak"), []int64{1, 2}, 0, api.ErrCert)
	open := program(t, someMain)
	open.Funs[0].Body.Steps = []api.Step{{Op: api.ONew, Out: -1}}
	if got := bounds.Verify(open, bad); got != api.ErrLeft {
		t.Errorf("Verify: %d", got)
	}
}

// TestValues: Bound is the value of a Peak, or the greatest int.
func TestValues(t *testing.T) {
	p := program(t, "fun main (int int int) int [value 0];")
	for _, c := range []struct {
		peak string
		args []int64
		want int64
	}{
		{"", []int64{1, 2, 3}, 0},
		{"5", []int64{1, 2, 3}, 5},
		{"5 2*0 3*1.1 7*0.1.2 1*2.2.2", []int64{4, 5, 6}, 5 + 8 + 30 + 840 + 20},
		{"5 2*0 3*1.1", []int64{-4, 1, 0}, 5},
		{"3*1.1 9*2.2.2", []int64{0, 1, 2}, 0},
		{"1*0.0", []int64{1 << 32, 0, 0}, math.MaxInt64 - 1<<31 + 1},
		{"1*0.0", []int64{1<<32 + 1, 0, 0}, math.MaxInt64},
		{"1*0.0.0", []int64{3810779, 0, 0}, 9223371416043870029},
		{"1*0.0.0", []int64{3810780, 0, 0}, math.MaxInt64},
		{"1*0", []int64{math.MaxInt64, 0, 0}, math.MaxInt64},
		{"1*0 1", []int64{math.MaxInt64, 0, 0}, math.MaxInt64},
		{"1*0 1", []int64{math.MaxInt64 - 1, 0, 0}, math.MaxInt64},
		{"1*0 1", []int64{math.MaxInt64 - 2, 0, 0}, math.MaxInt64 - 1},
		{"1*0.0.0 1*0.1.2", []int64{math.MaxInt64, math.MaxInt64, math.MaxInt64}, math.MaxInt64},
		{"1*0.0.1 7", []int64{math.MaxInt64, 0, math.MaxInt64}, 7},
		{"1125899906842624*0 7", []int64{8191, 0, 0}, 8191<<50 + 7},
		{"1125899906842624*0 7", []int64{8192, 0, 0}, math.MaxInt64},
		{"1*0", []int64{math.MinInt64, 0, 0}, 0},
	} {
		boundIs(t, p, certsOf(p, "main; peak "+c.peak), c.args, c.want, api.OK)
	}
}

// TestWide: constructors with very many fields, of which a certificate chooses three.
func TestWide(t *testing.T) {
	const fields = 3000
	text := "data wide 0 = A | B" + strings.Repeat(" (d0 @0 {e0})", fields) + "; fun f 0 1 0 {0} ((d0 @0)) int [3 int := case 0 [1 int := int #1; end @0; value 1] [bind"
	for i := range fields {
		text += fmt.Sprint(" ", 10+i)
	}
	text += "; 2 int := call .0 @0 keep 12; 4 int := call .0 @0 last 3009; value 4]; value 3]; fun main () int [new @0; 0 (d0 @0) := make .0; 1 int := call .0 @0 last 0; value 1];"
	p := readProgram(text)
	verify := func(text string, want api.Errno) {
		t.Helper()
		if got := bounds.Verify(p, certsOf(p, text)); got != want {
			t.Errorf("Verify: %d, not %d", got, want)
		}
	}
	verify("main; peak 7\nf 0; peak 1*0.0.0 1*1 7\nf; peak 1*0.0.0; growth 1*0.0", api.OK)
	verify("main; peak 7\nf 0; peak 1*0.0.0 7\nf; peak 1*0.0.0; growth 1*0.0", api.ErrBound)
	verify("main; peak 7\nf 0; peak 1*0.0.0 1*1 7\nf; peak 1*0.0; growth", api.OK)
	verify("main; peak 6\nf 0; peak 1*0.0.0 1*1 7\nf; peak 1*0.0; growth", api.ErrBound)
	if certs, e := bounds.Find(p); e != api.OK || bounds.Verify(p, certs) != api.OK {
		t.Errorf("Find: %d", e)
	}
}

// TestMany: functions and blocks as many as there may be take no long time.
func TestMany(t *testing.T) {
	text := "fun main (int) int [1 int := int #1; "
	for v := 2; v < 5400; v += 2 {
		text += fmt.Sprintf("%d bool := less 1 0; %d int := if %d [value 0] [value 0]; ", v, v+1, v)
	}
	p := readProgram(text + "value 0];")
	certs, e := bounds.Find(p)
	if e != api.OK || bounds.Verify(p, certs) != api.OK {
		t.Errorf("Find of blocks: %d", e)
	}
	const ring = 700
	text = ""
	for i := range ring {
		text += fmt.Sprintf("fun f%d 0 1 0 {0} (int) int [1 int := int #0; 2 bool := less 1 0; 7 int := if 2 [3 int := int #1; 4 int := sub 0 3; 5 (ref int @0) := ref 0 @0; 6 int := call .%d @0 keep 4; value 6] [value 0]; end @0; value 7]; ", i, (i+1)%ring)
	}
	p = readProgram(text + "fun main (int) int [new @0; 1 int := call .0 @0 last 0; value 1];")
	certs, e = bounds.Find(p)
	if e != api.OK || bounds.Verify(p, certs) != api.OK || len(certs) < ring {
		t.Errorf("Find of a ring: %d, %d certificates", e, len(certs))
	}
	slices.Reverse(certs)
	if got := bounds.Verify(p, certs); got != api.OK {
		t.Errorf("Verify of a ring: %d", got)
	}
}
