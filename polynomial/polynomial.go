// Package polynomial has the polynomials by which words are counted: sums of numbers, each times how many ways there are to choose some of each variable.
package polynomial

import (
	"iter"
	"slices"

	"heriot/api"
)

// Polynomials have terms in which so many are chosen at most, each times a number up to MaxCoef. What needs more is beyond the bounds.
const (
	MaxDegree = 3
	MaxCoef   = 1 << 50
)

// Poly is a polynomial, by its terms in the order of their Pows. Of one that is beyond the bounds nothing else is known. Its terms are never changed.
type Poly struct {
	terms    []term
	isBeyond bool
}

// term is a number, at least 1, times how many ways there are to choose what its Pows say.
type term struct {
	of   Pows
	coef int64
}

func byPows(a, b term) int { return slices.Compare(a.of[:], b.of[:]) }

// merged sorts a list, and joins elements that have the same place in it.
func merged[T any](list []T, order func(a, b T) int, join func(a, b T) T) []T {
	slices.SortStableFunc(list, order)
	out := list[:0]
	for _, x := range list {
		if last := len(out) - 1; last >= 0 && order(out[last], x) == 0 {
			out[last] = join(out[last], x)
		} else {
			out = append(out, x)
		}
	}
	return out
}

// gathered is the polynomial of some terms, of which those with the same Pows are joined.
func gathered(terms []term, join func(a, b term) term) Poly {
	terms = merged(terms, byPows, join)
	if len(terms) > most || slices.ContainsFunc(terms, func(t term) bool { return t.coef > MaxCoef }) {
		return Poly{isBeyond: true}
	}
	return Poly{terms: terms}
}

func both(a, b term) term { return term{a.of, plus(a.coef, b.coef)} }

func greater(a, b term) term { return term{a.of, max(a.coef, b.coef)} }

// Constant is a number, which is not below 0.
func Constant(n int64) Poly {
	if n == 0 {
		return Poly{}
	}
	return gathered([]term{{coef: n}}, both)
}

// Variable is a variable alone.
func Variable(v int) Poly { return Poly{terms: []term{{Pows{}.and(v), 1}}} }

// IsBeyond tells whether there is no such polynomial: it would be beyond the bounds.
func (p Poly) IsBeyond() bool { return p.isBeyond }

func (p Poly) isZero() bool { return !p.isBeyond && len(p.terms) == 0 }

// Sum is the sum of polynomials.
func Sum(list ...Poly) Poly { return joined(list, both) }

// Greatest is the least polynomial that all of these are at most of.
func Greatest(list ...Poly) Poly { return joined(list, greater) }

func joined(list []Poly, join func(a, b term) term) Poly {
	list = slices.DeleteFunc(slices.Clone(list), Poly.isZero)
	var terms []term
	for _, p := range list {
		if p.isBeyond || len(list) == 1 {
			return p
		}
		terms = append(terms, p.terms...)
		if len(terms) > most {
			terms = merged(terms, byPows, join)
		}
	}
	return gathered(terms, join)
}

// Less is the polynomial with a constant part that is less by a number, but not below 0.
func (p Poly) Less(n int64) Poly {
	if len(p.terms) == 0 || p.terms[0].of != (Pows{}) {
		return p
	}
	rest := Poly{terms: p.terms[1:]}
	return Sum(Constant(max(p.terms[0].coef-n, 0)), rest)
}

// Coef is the number that stands at some Pows.
func (p Poly) Coef(of Pows) int64 {
	i, ok := slices.BinarySearchFunc(p.terms, term{of: of}, byPows)
	if !ok {
		return 0
	}
	return p.terms[i].coef
}

// Above goes through the Pows at which a polynomial has more than another one, and by how much.
func (p Poly) Above(q Poly) iter.Seq2[Pows, int64] {
	return func(yield func(Pows, int64) bool) {
		for _, t := range p.terms {
			if more := t.coef - q.Coef(t.of); more > 0 && !yield(t.of, more) {
				return
			}
		}
	}
}

// IsAtMost tells whether a polynomial has nowhere more than another one. Neither is beyond the bounds.
func (p Poly) IsAtMost(q Poly) bool {
	for range p.Above(q) {
		return false
	}
	return true
}

// Raised is the polynomial with more at some Pows.
func (p Poly) Raised(of Pows, by int64) Poly {
	return Sum(p, Poly{terms: []term{{of, by}}})
}

// Mentions tells whether one of the variables for which something holds stands in the polynomial.
func (p Poly) Mentions(holds func(v int) bool) bool {
	for _, t := range p.terms {
		for v := range t.of.Powers() {
			if holds(v) {
				return true
			}
		}
	}
	return false
}

// Single is the variable that the polynomial is, if it is just one.
func (p Poly) Single() (int, bool) {
	if len(p.terms) != 1 || p.terms[0].coef != 1 || p.terms[0].of.degree() != 1 {
		return 0, false
	}
	return p.terms[0].of.last(), true
}

// Value is the value at some numbers, which are not below 0, one for each variable; or math.MaxInt64 where that is greater.
func (p Poly) Value(at []int64) int64 {
	sum := int64(0)
	for _, t := range p.terms {
		part := t.coef
		for v, k := range t.of.Powers() {
			part = times(part, choose(at[v], k))
		}
		sum = plus(sum, part)
	}
	return sum
}

// Of is the polynomial in so many variables that a list of terms is, if the list is well-shaped.
func Of(list []api.Term, variables int) (Poly, bool) {
	var terms []term
	for _, t := range list {
		of, ok := powsOf(t.Pows)
		if !ok || len(t.Pows) != variables || t.Coef < 1 || t.Coef > MaxCoef {
			return Poly{}, false
		}
		terms = append(terms, term{of, t.Coef})
	}
	out := gathered(terms, both)
	return out, len(out.terms) == len(list)
}

// Terms are the terms of the polynomial in so many variables.
func (p Poly) Terms(variables int) []api.Term {
	var out []api.Term
	for _, t := range p.terms {
		pows := make([]int, variables)
		for v, k := range t.of.Powers() {
			pows[v] = k
		}
		out = append(out, api.Term{Coef: t.coef, Pows: pows})
	}
	return out
}
