package bounds

import "heriot/polynomial"

// place is where a certificate is raised: some Pows of one of its polynomials.
type place struct {
	claim
	of polynomial.Pows
}

// raise is by how much, and what variable of the certificate was put as a sum last on the path to where that was seen, if one was; with the sum's number.
type raise struct {
	by       int64
	hasSplit bool
	variable int
	number   int64
}

// raiser is a judge that refuses nothing, but notes what a certificate would have to say.
type raiser struct {
	raises     map[place]raise
	isTooLarge bool // the size of the result is not known
	costs      int  // so many costs of the result are known
}

func newRaiser(costs int) *raiser { return &raiser{raises: map[place]raise{}, costs: costs} }

func (r *raiser) lacksSize() { r.isTooLarge = true }

func (r *raiser) lacksCosts(count int) { r.costs = min(r.costs, count) }

func (r *raiser) keepsTo(w *walk, p polynomial.Poly, what claim) {
	for of, more := range p.Above(*w.claims.at(what)) {
		at := place{what, of.Renamed(func(v int) int { return w.paths[v].origin })}
		if more > r.raises[at].by {
			r.raises[at] = w.raiseBy(more)
		}
	}
}

func (w *walk) raiseBy(more int64) raise {
	out := raise{by: more}
	for _, s := range w.splits {
		if s.Variable < w.certified {
			out.hasSplit, out.variable, out.number = true, s.Variable, s.Number
		}
	}
	return out
}

// raise changes a certificate by what was noted, and tells whether something has changed, and whether all could be.
func (g *goal) raise(r *raiser) (hasChanged, ok bool) {
	if g.isKnown && r.isTooLarge {
		g.isKnown, g.size = false, polynomial.Poly{}
		hasChanged = true
	}
	if r.costs < len(g.calls) {
		g.calls = g.calls[:r.costs]
		hasChanged = true
	}
	for at, by := range r.raises {
		if at.kind == ofSize && !g.isKnown || at.kind == ofCalls && at.number >= len(g.calls) {
			continue
		}
		if !g.raiseAt(at, by) {
			return true, false
		}
		hasChanged = true
	}
	return hasChanged, true
}

// raiseAt raises a certificate at one place. Where that did not do in some rounds, more is needed for more of the variable that was put as a sum.
func (g *goal) raiseAt(at place, by raise) bool {
	of, more := at.of, by.by
	if g.rounds[at] >= mostRaises {
		if !by.hasSplit {
			return false
		}
		var ok bool
		of, ok = of.With(by.variable)
		if !ok {
			return false
		}
		more = (more-1)/by.number + 1
	}
	g.rounds[at]++
	p := g.at(at.claim)
	*p = p.Raised(of, more)
	return !p.IsBeyond() && p.Coef(of) <= mostFound
}
