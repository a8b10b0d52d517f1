package polynomial_test

import (
	"math"
	"math/big"
	"math/rand"
	"slices"
	"testing"

	"heriot/api"
	"heriot/polynomial"
)

const variables = 4

// terms are some terms of a polynomial in these variables.
func terms(some *rand.Rand, degree int, most int64) []api.Term {
	byPows := map[[variables]int]int64{}
	for range some.Intn(5) {
		var pows [variables]int
		for range some.Intn(degree + 1) {
			pows[some.Intn(variables)]++
		}
		byPows[pows] = 1 + some.Int63n(most)
	}
	var out []api.Term
	for pows, coef := range byPows {
		out = append(out, api.Term{Coef: coef, Pows: pows[:]})
	}
	slices.SortFunc(out, func(a, b api.Term) int { return slices.Compare(a.Pows, b.Pows) })
	return out
}

func of(t *testing.T, list []api.Term) polynomial.Poly {
	t.Helper()
	p, ok := polynomial.Of(list, variables)
	if !ok {
		t.Fatalf("no polynomial: %v", list)
	}
	return p
}

// isWithin tells whether terms are within the bounds.
func isWithin(list []api.Term) bool {
	for _, t := range list {
		sum := 0
		for _, k := range t.Pows {
			sum += k
		}
		if sum > polynomial.MaxDegree || t.Coef > polynomial.MaxCoef {
			return false
		}
	}
	return true
}

// at is the value of some terms at numbers.
func at(list []api.Term, x []*big.Int) *big.Int {
	out := new(big.Int)
	for _, t := range list {
		part := big.NewInt(t.Coef)
		for v, k := range t.Pows {
			part.Mul(part, choose(x[v], k))
		}
		out.Add(out, part)
	}
	return out
}

// choose is how many ways there are to choose k of x.
func choose(x *big.Int, k int) *big.Int {
	out := big.NewInt(1)
	for i := range int64(k) {
		out.Mul(out, new(big.Int).Sub(x, big.NewInt(i)))
		out.Div(out, big.NewInt(i+1))
	}
	return out
}

// points are enough numbers to tell polynomials apart.
func points() [][]*big.Int {
	var out [][]*big.Int
	for n := range 256 {
		var point []*big.Int
		for v := range variables {
			point = append(point, big.NewInt(int64(n>>(2*v)&3)))
		}
		out = append(out, point)
	}
	return append(out, []*big.Int{big.NewInt(9), big.NewInt(14), big.NewInt(5), big.NewInt(7)})
}

// hasValues looks at whether a polynomial has the values that it has to have.
func hasValues(t *testing.T, what string, p polynomial.Poly, value func(x []*big.Int) *big.Int) {
	t.Helper()
	list := p.Terms(variables)
	if p.IsBeyond() || !isWithin(list) {
		t.Fatalf("%s: beyond the bounds: %v", what, list)
	}
	for _, x := range points() {
		if got, want := at(list, x), value(x); got.Cmp(want) != 0 {
			t.Fatalf("%s: %v at %v, not %v: %v", what, got, x, want, list)
		}
	}
}

// TestTerms: a polynomial is what its terms say.
func TestTerms(t *testing.T) {
	for seed := range 300 {
		some := rand.New(rand.NewSource(int64(seed)))
		list := terms(some, 3, 1<<50)
		got := of(t, list).Terms(variables)
		slices.SortFunc(got, func(a, b api.Term) int { return slices.Compare(a.Pows, b.Pows) })
		if !slices.EqualFunc(got, list, func(a, b api.Term) bool { return a.Coef == b.Coef && slices.Equal(a.Pows, b.Pows) }) {
			t.Fatalf("%v, not %v", got, list)
		}
	}
	for _, list := range [][]api.Term{
		{{Coef: 0, Pows: make([]int, 4)}}, {{Coef: -1, Pows: make([]int, 4)}}, {{Coef: 1<<50 + 1, Pows: make([]int, 4)}},
		{{Coef: 1, Pows: make([]int, 3)}}, {{Coef: 1, Pows: make([]int, 5)}}, {{Coef: 1}},
		{{Coef: 1, Pows: []int{0, 0, 0, 4}}}, {{Coef: 1, Pows: []int{2, 0, 2, 0}}}, {{Coef: 1, Pows: []int{2, 0, -1, 0}}}, {{Coef: 1, Pows: []int{math.MaxInt, 0, 0, 0}}},
		{{Coef: 1, Pows: []int{0, 0, 1, 0}}, {Coef: 1, Pows: []int{0, 0, 1, 0}}},
	} {
		if p, ok := polynomial.Of(list, variables); ok {
			t.Errorf("%v is %v", list, p)
		}
	}
	if p, ok := polynomial.Of([]api.Term{{Coef: 7}}, 0); !ok || p.Value(nil) != 7 {
		t.Errorf("a number alone: %v %v", p, ok)
	}
}

// TestSums: sums, greatest ones, and what is at most what.
func TestSums(t *testing.T) {
	for seed := range 300 {
		some := rand.New(rand.NewSource(int64(seed)))
		a, b, c := terms(some, 3, 20), terms(some, 3, 20), terms(some, 1, 20)
		p, q, r := of(t, a), of(t, b), of(t, c)
		sum := polynomial.Sum(p, q, r)
		hasValues(t, "Sum", sum, func(x []*big.Int) *big.Int {
			out := at(a, x)
			return out.Add(out, at(b, x)).Add(out, at(c, x))
		})
		greatest := polynomial.Greatest(p, q)
		for _, one := range []polynomial.Poly{p, q} {
			if !one.IsAtMost(greatest) || !one.IsAtMost(sum) || !one.IsAtMost(one) {
				t.Fatalf("%v is not at most %v", one, greatest)
			}
		}
		if !greatest.IsAtMost(polynomial.Sum(p, q)) || sum.IsAtMost(p) != (len(b)+len(c) == 0) {
			t.Fatalf("%v of %v and %v", greatest, a, b)
		}
		for _, term := range greatest.Terms(variables) {
			if !has(a, term) && !has(b, term) {
				t.Fatalf("%v is in neither of %v and %v", term, a, b)
			}
		}
		// What one has more than another one is what it takes to be the greatest of both.
		raised := q
		for of, more := range p.Above(q) {
			raised = raised.Raised(of, more)
		}
		if !raised.IsAtMost(greatest) || !greatest.IsAtMost(raised) {
			t.Fatalf("%v, not %v", raised, greatest)
		}
		less := p.Less(5)
		hasValues(t, "Less", polynomial.Sum(less, polynomial.Constant(constantOf(a)-constantOf(less.Terms(variables)))), func(x []*big.Int) *big.Int { return at(a, x) })
		if got := constantOf(less.Terms(variables)); got != max(constantOf(a)-5, 0) {
			t.Fatalf("Less: %d of %v", got, a)
		}
	}
	if p := polynomial.Sum(); p.IsBeyond() || len(p.Terms(2)) > 0 {
		t.Errorf("the sum of nothing: %v", p)
	}
}

func has(list []api.Term, term api.Term) bool {
	return slices.ContainsFunc(list, func(t api.Term) bool { return t.Coef == term.Coef && slices.Equal(t.Pows, term.Pows) })
}

func constantOf(list []api.Term) int64 {
	for _, t := range list {
		if !slices.ContainsFunc(t.Pows, func(k int) bool { return k > 0 }) {
			return t.Coef
		}
	}
	return 0
}

// TestPut: products, and polynomials that are put into others, have the values that they have to have, or are beyond the bounds.
func TestPut(t *testing.T) {
	within, beyond := 0, 0
	for seed := range 2000 {
		some := rand.New(rand.NewSource(int64(seed)))
		outer := terms(some, 3, 9)
		var inner [variables][]api.Term
		degree := 0
		for v := range inner {
			inner[v] = terms(some, some.Intn(3), 9)
		}
		for _, term := range outer {
			sum, isZero := 0, false
			for v, k := range term.Pows {
				d := degreeOf(inner[v])
				sum += k * d
				// So few of a number that is less are no ways at all.
				isZero = isZero || d == 0 && constantOf(inner[v]) < int64(k)
			}
			if !isZero {
				degree = max(degree, sum)
			}
		}
		p := of(t, outer).Put(func(v int) polynomial.Poly { return of(t, inner[v]) })
		if p.IsBeyond() != (degree > polynomial.MaxDegree) {
			t.Fatalf("%d: beyond: %v, degree %d: %v in %v", seed, p.IsBeyond(), degree, inner, outer)
		}
		if p.IsBeyond() {
			beyond++
			continue
		}
		within++
		hasValues(t, "Put", p, func(x []*big.Int) *big.Int {
			var y []*big.Int
			for v := range inner {
				y = append(y, at(inner[v], x))
			}
			return at(outer, y)
		})
		if degreeOf(outer)+degreeOf(inner[0]) <= polynomial.MaxDegree {
			hasValues(t, "Times", of(t, outer).Times(of(t, inner[0])), func(x []*big.Int) *big.Int {
				out := at(outer, x)
				return out.Mul(out, at(inner[0], x))
			})
		}
	}
	if within < 500 || beyond < 100 {
		t.Errorf("too few cases: %d and %d", within, beyond)
	}
}

func degreeOf(list []api.Term) int {
	out := 0
	for _, t := range list {
		sum := 0
		for _, k := range t.Pows {
			sum += k
		}
		out = max(out, sum)
	}
	return out
}

// TestBeyond: numbers at the bounds.
func TestBeyond(t *testing.T) {
	const most = polynomial.MaxCoef
	x := polynomial.Variable(0)
	number := polynomial.Constant
	zero := polynomial.Poly{}
	put := func(pows int, p polynomial.Poly) polynomial.Poly {
		outer, _ := polynomial.Of([]api.Term{{Coef: 1, Pows: []int{pows}}}, 1)
		return outer.Put(func(int) polynomial.Poly { return p })
	}
	for i, c := range []struct {
		p        polynomial.Poly
		isBeyond bool
	}{
		{number(most), false},
		{number(most + 1), true},
		{number(math.MaxInt64), true},
		{polynomial.Sum(number(most-1), number(1)), false},
		{polynomial.Sum(number(most), number(1)), true},
		{polynomial.Sum(number(most), x), false},
		{polynomial.Sum(number(most+1), zero), true},
		{polynomial.Greatest(number(most), number(most)), false},
		{number(1 << 25).Times(number(1 << 25)), false},
		{number(1 << 25).Times(number(1<<25 + 1)), true},
		{number(most).Times(number(most)), true},
		{number(most).Times(number(most)).Times(zero), false},
		{zero.Times(number(most + 1)), false},
		{number(1 << 25).Times(x).Times(x), false},
		{number(1 << 49).Times(x).Times(x), false},
		{number(1<<49 + 1).Times(x).Times(x), true},
		{x.Times(x).Times(x), false},
		{x.Times(x).Times(x).Times(x), true},
		{x.Times(x).Times(x).Times(x).Times(zero), false},
		{put(2, number(47453133)), false},
		{put(2, number(47453134)), true},
		{put(3, number(189039)), false},
		{put(3, number(189040)), true},
		{put(3, number(2)), false},
		{put(2, number(most)), true},
		{put(3, number(most)), true},
		{put(2, x), false},
		{put(2, x.Times(x)), true},
		{put(2, zero), false},
		{put(3, number(1<<16).Times(x)), false},
		{put(3, number(1<<17).Times(x)), true},
		{put(2, number(1<<25).Times(x)), false},
		{put(2, number(1<<25+1).Times(x)), true},
		{put(1, number(most+1)), true},
		{put(2, number(most+1)), true},
		{put(3, x.Times(x).Times(x).Times(x)), true},
	} {
		if got := c.p.IsBeyond(); got != c.isBeyond {
			t.Errorf("%d: %v, not %v: %v", i, got, c.isBeyond, c.p)
		}
	}
	if p := put(3, number(2)); len(p.Terms(1)) > 0 {
		t.Errorf("three of two: %v", p)
	}
}

// TestManyTerms: what would need too many terms is taken as beyond the bounds; what needs many is not.
func TestManyTerms(t *testing.T) {
	sum := func(count int) polynomial.Poly {
		var list []polynomial.Poly
		for v := range count {
			list = append(list, polynomial.Variable(v))
		}
		return polynomial.Sum(list...)
	}
	cube, _ := polynomial.Of([]api.Term{{Coef: 1, Pows: []int{3}}}, 1)
	if p := cube.Put(func(int) polynomial.Poly { return sum(100) }); p.IsBeyond() || len(p.Terms(100)) != 171700 {
		t.Errorf("a hundred: %v", p.IsBeyond())
	}
	if p := cube.Put(func(int) polynomial.Poly { return sum(16000) }); !p.IsBeyond() {
		t.Error("very many")
	}
	if p := sum(16000).Times(sum(16000)); !p.IsBeyond() {
		t.Error("a product of very many")
	}
}

// TestSingle: a variable alone, and nothing else.
func TestSingle(t *testing.T) {
	x := polynomial.Variable(5)
	if v, ok := x.Single(); !ok || v != 5 {
		t.Errorf("%d %v", v, ok)
	}
	for _, p := range []polynomial.Poly{{}, polynomial.Constant(1), polynomial.Sum(x, x), polynomial.Sum(x, polynomial.Constant(1)), polynomial.Sum(x, polynomial.Variable(6)), x.Times(x), polynomial.Constant(1 << 60)} {
		if v, ok := p.Single(); ok {
			t.Errorf("%v is %d", p, v)
		}
	}
}

// TestValue: values up to the greatest int.
func TestValue(t *testing.T) {
	numbers := []int64{0, 1, 2, 3, 7, 1000, 1 << 20, 1<<21 - 1, 3810777, 3810780, 1 << 31, 1<<32 + 7, math.MaxInt64 - 1, math.MaxInt64}
	for seed := range 3000 {
		some := rand.New(rand.NewSource(int64(seed)))
		list := terms(some, 3, 1+some.Int63n(1<<uint(some.Intn(51))))
		var x []int64
		var big0 []*big.Int
		for range variables {
			n := numbers[some.Intn(len(numbers))]
			x, big0 = append(x, n), append(big0, big.NewInt(n))
		}
		want := at(list, big0)
		if limit := big.NewInt(math.MaxInt64); want.Cmp(limit) > 0 {
			want = limit
		}
		if got := of(t, list).Value(x); got != want.Int64() {
			t.Fatalf("%d at %v, not %v: %v", got, x, want, list)
		}
	}
}

// TestSplit: a variable that is put as a sum, and put back.
func TestSplit(t *testing.T) {
	for seed := range 2000 {
		some := rand.New(rand.NewSource(int64(seed)))
		// Variables 1 and 2 are the parts of 0; 3 stands beside them.
		s := polynomial.Split{Variable: 0, Number: some.Int63n(6), First: 1, Count: 2}
		var list, split []api.Term
		for _, term := range terms(some, 3, 30) {
			if term.Pows[1]+term.Pows[2] == 0 {
				list = append(list, term)
			}
		}
		for _, term := range terms(some, 3, 30) {
			if term.Pows[0] == 0 {
				split = append(split, term)
			}
		}
		p := of(t, list)
		hasValues(t, "Split", p.Split(s), func(x []*big.Int) *big.Int {
			whole := big.NewInt(s.Number)
			whole.Add(whole, x[1]).Add(whole, x[2])
			return at(list, []*big.Int{whole, x[1], x[2], x[3]})
		})
		if back := p.Split(s).Unsplit(s); !back.IsAtMost(p) || !p.Split(s).IsAtMost(back.Split(s)) {
			t.Fatalf("%v comes back as %v", p, back)
		}
		isLeast(t, of(t, split), s)
	}
}

// isLeast looks at whether what is put back is enough, and nothing less is.
func isLeast(t *testing.T, p polynomial.Poly, s polynomial.Split) {
	t.Helper()
	back := p.Unsplit(s)
	if !p.IsAtMost(back.Split(s)) {
		t.Fatalf("%v is not at most %v with %v", p, back, s)
	}
	list := back.Terms(variables)
	for i := range list {
		if list[i].Pows[1]+list[i].Pows[2] > 0 {
			t.Fatalf("%v has parts of %v", back, s)
		}
		list[i].Coef--
		less := slices.DeleteFunc(slices.Clone(list), func(t api.Term) bool { return t.Coef == 0 })
		if p.IsAtMost(of(t, less).Split(s)) {
			t.Fatalf("%v is at most %v, which is less than %v, with %v", p, less, back, s)
		}
		list[i].Coef++
	}
}

// TestUnsplitBounds: numbers at the bounds are put back without running over.
func TestUnsplitBounds(t *testing.T) {
	s := polynomial.Split{Variable: 0, Number: 4096, First: 1, Count: 1}
	p, _ := polynomial.Of([]api.Term{{Coef: 1 << 50, Pows: []int{0, 3}}, {Coef: 1 << 50, Pows: []int{0, 2}}, {Coef: 1 << 50, Pows: []int{0, 0}}}, 2)
	got := p.Unsplit(s).Terms(2)
	if len(got) != 1 || got[0].Coef != 1<<50 || !slices.Equal(got[0].Pows, []int{3, 0}) {
		t.Errorf("%v", got)
	}
}

// TestPows: how Pows are gone through and changed.
func TestPows(t *testing.T) {
	p, _ := polynomial.Of([]api.Term{{Coef: 1, Pows: []int{2, 0, 1}}}, 3)
	for of := range p.Above(polynomial.Poly{}) {
		powers := map[int]int{}
		for v, k := range of.Powers() {
			powers[v] = k
		}
		if len(powers) != 2 || powers[0] != 2 || powers[2] != 1 {
			t.Errorf("Powers: %v", powers)
		}
		if more, ok := of.With(1); ok {
			t.Errorf("With: %v", more)
		}
		renamed := polynomial.Poly{}.Raised(of.Renamed(func(v int) int { return 2 - v }), 1)
		if got := renamed.Terms(3); len(got) != 1 || !slices.Equal(got[0].Pows, []int{1, 0, 2}) {
			t.Errorf("Renamed: %v", got)
		}
		same := polynomial.Poly{}.Raised(of.Renamed(func(int) int { return 1 }), 1)
		if got := same.Terms(3); len(got) != 1 || !slices.Equal(got[0].Pows, []int{0, 3, 0}) {
			t.Errorf("Renamed: %v", got)
		}
	}
	for of := range polynomial.Variable(2).Above(polynomial.Poly{}) {
		more, ok := of.With(0)
		if got := (polynomial.Poly{}).Raised(more, 3).Terms(3); !ok || len(got) != 1 || !slices.Equal(got[0].Pows, []int{1, 0, 1}) {
			t.Errorf("With: %v %v", got, ok)
		}
	}
}
