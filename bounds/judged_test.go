package bounds_test

import (
	"fmt"
	"math/rand"
	"slices"
	"strings"
	"testing"

	"heriot/api"
	"heriot/bounds"
	"heriot/steps"
)

// keepsTo looks at whether runs of a program hold at most as many words as Bound says: P6.
func (m made) keepsTo(t *testing.T, certs []api.Cert, seed int) (full int) {
	t.Helper()
	for k := range int64(4) {
		args := []int64{k*3 - 1, int64(seed%9) - 2*k}
		run := steps.Run(m.Program, args, 100+seed%300)
		most, e := bounds.Bound(m.Program, certs, args)
		if e != api.OK || most < int64(run.Peak) {
			t.Fatalf("%s with %v: Bound: %d %d, the peak is %d: %s", m.name, args, most, e, run.Peak, shown(m.Program, certs))
		}
		if run.Peak > 0 && most == int64(run.Peak) {
			full++
		}
	}
	return full
}

// TestFound: P9.2, P9.3 and P6: what is found is taken, and runs keep to it.
func TestFound(t *testing.T) {
	t.Parallel()
	found, endless, full, degrees := 0, 0, 0, map[int]int{}
	// In the last one a lambda calls a function whose certificate is found behind that of the function around the lambda.
	for _, seed := range append(upTo(700), 10358) {
		m, ok := sample(t, seed)
		if !ok {
			continue
		}
		certs, e := bounds.Find(m.Program)
		if e == api.ErrFinite && certs == nil {
			endless++
			continue
		}
		if e != api.OK {
			t.Fatalf("%s: Find: %d", m.name, e)
		}
		found++
		verifiedIs(t, m.Program, certs, api.OK)
		full += m.keepsTo(t, certs, seed)
		degrees[degreeOf(certs)]++
	}
	if found < 400 || endless < 100 || full < 150 || degrees[1] < 100 || degrees[2] < 15 {
		t.Errorf("too few cases: %d are found, %d are not, %d keep to what is found just so, degrees %v", found, endless, full, degrees)
	}
}

// TestMethod: P9.3: Find finds wherever the chapter's method does, and what that finds.
func TestMethod(t *testing.T) {
	t.Parallel()
	counts := map[bool]int{}
	look := func(name string, p api.Program) {
		want, ok := methodical(p)
		counts[ok]++
		certs, e := bounds.Find(p)
		if !ok {
			return
		}
		if e != api.OK || textOf(p, certs) != textOf(p, want) {
			t.Fatalf("%s: Find: %d, %s, not %s", name, e, shown(p, certs), textOf(p, want))
		}
	}
	for seed := range 300 {
		if m, ok := sample(t, seed); ok {
			look(m.name, m.Program)
		}
	}
	for _, text := range findable() {
		if p, ok := placed(t, text); ok {
			look(text, p)
		}
	}
	if counts[true] < 150 || counts[false] < 50 {
		t.Errorf("too few cases: %v", counts)
	}
}

// textOf is the same for the same certificates in any order.
func textOf(p api.Program, certs []api.Cert) string {
	var out []string
	for _, c := range certs {
		for _, list := range polynomials(&c) {
			slices.SortFunc(*list, func(a, b api.Term) int { return slices.Compare(a.Pows, b.Pows) })
		}
		out = append(out, strings.ReplaceAll(fmt.Sprintf("%+v", c), "<nil>", "[]"))
	}
	slices.Sort(out)
	return strings.Join(out, "\n")
}

func upTo(n int) []int {
	var out []int
	for i := range n {
		out = append(out, i)
	}
	return out
}

// degreeOf is how many are chosen at most in a Peak of some certificates.
func degreeOf(certs []api.Cert) int {
	out := 0
	for _, c := range certs {
		for _, t := range c.Peak {
			sum := 0
			for _, k := range t.Pows {
				sum += k
			}
			out = max(out, sum)
		}
	}
	return out
}

// cloned are certificates that share nothing with others.
func cloned(certs []api.Cert) []api.Cert {
	terms := func(list []api.Term) []api.Term {
		var out []api.Term
		for _, t := range list {
			out = append(out, api.Term{Coef: t.Coef, Pows: slices.Clone(t.Pows)})
		}
		return out
	}
	each := func(lists [][]api.Term) [][]api.Term {
		var out [][]api.Term
		for _, list := range lists {
			out = append(out, terms(list))
		}
		return out
	}
	var out []api.Cert
	for _, c := range certs {
		out = append(out, api.Cert{Fun: c.Fun, Mine: slices.Clone(c.Mine), Peak: terms(c.Peak), Growth: each(c.Growth), Known: c.Known, Size: terms(c.Size), Behind: each(c.Behind), Calls: each(c.Calls)})
	}
	return out
}

// polynomials are those of a certificate.
func polynomials(c *api.Cert) []*[]api.Term {
	out := []*[]api.Term{&c.Peak}
	for _, lists := range [][][]api.Term{c.Growth, c.Behind, c.Calls} {
		for i := range lists {
			out = append(out, &lists[i])
		}
	}
	if c.Known {
		out = append(out, &c.Size)
	}
	return out
}

// change changes certificates in some way by which they mostly keep their shape.
func change(some *rand.Rand, p api.Program, certs []api.Cert) []api.Cert {
	out := cloned(certs)
	c := &out[some.Intn(len(out))]
	all := polynomials(c)
	one := all[some.Intn(len(all))]
	switch some.Intn(10) {
	case 0:
		*one = append(*one, api.Term{Coef: 1 + some.Int63n(3), Pows: somePows(some, p, c)})
	case 1:
		c.Known, c.Size = false, nil
	case 2:
		if len(c.Calls) > 0 {
			c.Calls = c.Calls[:some.Intn(len(c.Calls))]
		}
	case 3:
		if i := some.Intn(len(out)); some.Intn(4) == 0 {
			out = slices.Delete(out, i, i+1)
		}
	default:
		if len(*one) > 0 {
			lessen(some, one)
		}
	}
	return out
}

// lessen makes one number of a polynomial less, perhaps 0; or much greater.
func lessen(some *rand.Rand, p *[]api.Term) {
	i := some.Intn(len(*p))
	t := &(*p)[i]
	switch some.Intn(12) {
	case 0, 1:
		t.Coef = 0
	case 2, 3:
		t.Coef -= some.Int63n(t.Coef)
	case 4:
		t.Coef = 1<<50 - some.Int63n(1<<uint(some.Intn(51)))
	default:
		t.Coef--
	}
	if t.Coef == 0 {
		*p = slices.Delete(*p, i, i+1)
	}
}

// somePows are Pows that a polynomial of a certificate may have.
func somePows(some *rand.Rand, p api.Program, c *api.Cert) []int {
	out := make([]int, len(namesOf(p, *c)))
	for range some.Intn(4) {
		if len(out) > 0 {
			out[some.Intn(len(out))]++
		}
	}
	return out
}

// TestChanged: P9.1 and P9.2: certificates that say less and less are taken or refused as the judge says, and those that are taken hold.
func TestChanged(t *testing.T) {
	t.Parallel()
	counts := map[api.Errno]int{}
	for seed := range 250 {
		m, ok := sample(t, seed)
		if !ok {
			continue
		}
		certs, e := bounds.Find(m.Program)
		if e != api.OK {
			continue
		}
		some := rand.New(rand.NewSource(int64(seed)))
		for range 25 {
			next := change(some, m.Program, certs)
			want := judged(m.Program, next, nil)
			if got := bounds.Verify(m.Program, next); got != want {
				t.Fatalf("%s: Verify: %d, not %d: %s", m.name, got, want, shown(m.Program, next))
			}
			counts[want]++
			if want == api.OK {
				certs = next
			}
		}
		m.keepsTo(t, certs, seed)
	}
	if counts[api.OK] < 1500 || counts[api.ErrBound] < 700 || counts[api.ErrCert] < 40 {
		t.Errorf("too few cases: %v", counts)
	}
}

// shuffled are certificates in another order.
func shuffled(some *rand.Rand, certs []api.Cert) []api.Cert {
	out := slices.Clone(certs)
	some.Shuffle(len(out), func(i, k int) { out[i], out[k] = out[k], out[i] })
	return out
}

// TestUnits: P9.1 and P9.4: the order of certificates is no matter, and where units call backward all certificates hold just if those of each unit do by those of the units ahead.
func TestUnits(t *testing.T) {
	t.Parallel()
	counts := map[api.Errno]int{}
	for seed := range 180 {
		m, ok := sample(t, seed)
		if !ok || !callsBackward(m.Program) {
			continue
		}
		certs, e := bounds.Find(m.Program)
		if e != api.OK {
			continue
		}
		some := rand.New(rand.NewSource(int64(seed)))
		for range 8 {
			whole := bounds.Verify(m.Program, certs)
			if got := bounds.Verify(m.Program, shuffled(some, certs)); got != whole {
				t.Fatalf("%s: Verify in another order: %d, not %d", m.name, got, whole)
			}
			apart := api.OK
			for unit := -1; unit < 5; unit++ {
				got, want := bounds.VerifyUnit(m.Program, unit, shuffled(some, certs)), judged(m.Program, certs, &unit)
				if got != want {
					t.Fatalf("%s: VerifyUnit of %d: %d, not %d: %s", m.name, unit, got, want, shown(m.Program, certs))
				}
				apart = max(apart, got)
			}
			if apart != whole && whole != api.ErrCert {
				t.Fatalf("%s: by units %d, as a whole %d", m.name, apart, whole)
			}
			counts[whole]++
			certs = change(some, m.Program, certs)
			if len(certs) == 0 {
				break
			}
		}
	}
	if counts[api.OK] < 130 || counts[api.ErrBound] < 100 {
		t.Errorf("too few cases: %v", counts)
	}
}

// callsBackward tells whether all functions call functions of their own and of earlier units alone.
func callsBackward(p api.Program) bool {
	for _, f := range p.Funs {
		for _, s := range all(f.Body) {
			if s.Op == api.OCall && p.Funs[s.Code].Unit > f.Unit {
				return false
			}
		}
	}
	return true
}

// TestLaterUnits: VerifyUnit knows no certificate of a later unit.
func TestLaterUnits(t *testing.T) {
	p := program(t, "fun f 0 1 0 {0} (int) int [1 int := call .1 @0 keep 0; end @0; value 1]; fun g 0 1 0 {0} (int) int [1 (ref int) := ref 0 @0; end @0; value 0]; fun main (int) int [value 0];")
	const certs = "f; peak 1; growth 1\ng; peak 1; growth 1\nmain; peak"
	for _, c := range []struct {
		units [3]int
		want  map[int]api.Errno
	}{
		{[3]int{0, 0, 0}, map[int]api.Errno{0: api.OK, 1: api.OK}},
		{[3]int{1, 0, 2}, map[int]api.Errno{0: api.OK, 1: api.OK, 2: api.OK}},
		{[3]int{0, 1, 2}, map[int]api.Errno{0: api.ErrBound, 1: api.OK, 2: api.OK}},
		{[3]int{-5, 7, 7}, map[int]api.Errno{-5: api.ErrBound, 7: api.OK, 0: api.OK}},
	} {
		for i := range p.Funs {
			p.Funs[i].Unit = c.units[i]
		}
		for unit, want := range c.want {
			if got := bounds.VerifyUnit(p, unit, certsOf(p, certs)); got != want {
				t.Errorf("%v: VerifyUnit of %d: %d, not %d", c.units, unit, got, want)
			}
			if got := judged(p, certsOf(p, certs), &unit); got != want {
				t.Errorf("%v: the judge of %d: %d, not %d", c.units, unit, got, want)
			}
		}
		verifiedIs(t, p, certsOf(p, certs), api.OK)
	}
	// Only certificates of the unit itself are looked at, but those of others have to have their shape.
	p.Funs[0].Unit, p.Funs[1].Unit, p.Funs[2].Unit = 1, 0, 2
	wrong := certsOf(p, "f; peak 1; growth 1\ng; peak; growth 1\nmain; peak")
	for unit, want := range map[int]api.Errno{0: api.ErrBound, 1: api.OK, 2: api.OK} {
		if got := bounds.VerifyUnit(p, unit, wrong); got != want {
			t.Errorf("VerifyUnit of %d: %d, not %d", unit, got, want)
		}
		wrong[2].Growth = [][]api.Term{nil}
		if got := bounds.VerifyUnit(p, unit, wrong); got != api.ErrCert {
			t.Errorf("VerifyUnit of %d: %d", unit, got)
		}
		wrong[2].Growth = nil
	}
}

// TestKept: nothing is changed in an argument, and what is found shares nothing.
func TestKept(t *testing.T) {
	for seed := range 50 {
		m, ok := sample(t, seed)
		if !ok {
			continue
		}
		before := fmt.Sprintf("%+v", m.Program)
		certs, e := bounds.Find(m.Program)
		if e != api.OK {
			continue
		}
		text := fmt.Sprintf("%+v", certs)
		some := shuffled(rand.New(rand.NewSource(1)), certs)
		order := fmt.Sprintf("%+v", some)
		bounds.Verify(m.Program, some)
		bounds.VerifyUnit(m.Program, 0, some)
		bounds.Bound(m.Program, some, []int64{1, 2})
		bounds.Finite(m.Program)
		if fmt.Sprintf("%+v", m.Program) != before || fmt.Sprintf("%+v", some) != order {
			t.Fatalf("%s: an argument is changed", m.name)
		}
		for i := range certs {
			for _, p := range polynomials(&certs[i]) {
				for k := range *p {
					(*p)[k].Coef = -1
					clear((*p)[k].Pows)
				}
			}
			clear(certs[i].Mine)
		}
		again, _ := bounds.Find(m.Program)
		if got := fmt.Sprintf("%+v", again); got != text {
			t.Fatalf("%s: Find: %s, not %s", m.name, got, text)
		}
	}
}
