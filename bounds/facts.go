package bounds

import (
	"heriot/api"
	"heriot/polynomial"
)

// fact is what is known of a variable at some place of a walk.
type fact struct {
	isBounded  bool
	bound      polynomial.Poly // its size is at most this
	splits     int             // so many of the path's sums have been put into the bound
	hasLeast   bool
	least      int64 // an int is at least this
	isConstant bool
	constant   int64     // an int is just this
	test       *api.Step // the OLess that a bool comes from
	costs      []polynomial.Poly
}

// bounded is a value of a known bound, unless that is beyond the bounds.
func bounded(p polynomial.Poly) fact {
	if p.IsBeyond() {
		return fact{}
	}
	return fact{isBounded: true, bound: p}
}

// empty is a value of the size 0.
func empty() fact { return bounded(polynomial.Poly{}) }

func integer(n int64) fact {
	f := bounded(polynomial.Constant(max(n, 0)))
	f.hasLeast, f.least = true, n
	f.isConstant, f.constant = true, n
	return f
}

// unknown is a value of a type of which nothing else is known.
func unknown(t *api.Type) fact {
	if isSized(t) {
		return fact{}
	}
	return empty()
}

// isNatural tells whether an int is known not to be below 0.
func (f *fact) isNatural() bool { return f.hasLeast && f.least >= 0 }

// factor is the constant that the value is, if polynomials can be multiplied by it.
func (f *fact) factor() (int64, bool) {
	return f.constant, f.isConstant && f.constant >= 0 && f.constant <= polynomial.MaxCoef
}

// hasCost tells whether a path variable stands in a cost.
func (f *fact) hasCost(v int) bool {
	for _, c := range f.costs {
		if c.Mentions(func(other int) bool { return other == v }) {
			return true
		}
	}
	return false
}

// joined is what is known of a value that is one of some values.
func joined(list []fact) fact {
	out := fact{isBounded: true, hasLeast: true, least: list[0].least, costs: list[0].costs}
	for _, f := range list {
		out.isBounded = out.isBounded && f.isBounded
		out.bound = polynomial.Greatest(out.bound, f.bound)
		out.hasLeast = out.hasLeast && f.hasLeast
		out.least = min(out.least, f.least)
		var costs []polynomial.Poly
		for k := range min(len(out.costs), len(f.costs)) {
			costs = append(costs, polynomial.Greatest(out.costs[k], f.costs[k]))
		}
		out.costs = costs
	}
	if !out.isBounded {
		out.bound = polynomial.Poly{}
	}
	return out
}
