package bounds

import (
	"slices"

	"heriot/api"
	"heriot/polynomial"
)

// values are what the variables of a callee's certificate stand for at a call. Of those that are not known nothing else is.
type values struct {
	list      []polynomial.Poly
	isUnknown map[int]bool
}

func (v *values) add(p polynomial.Poly, isKnown bool) {
	if !isKnown {
		v.isUnknown[len(v.list)] = true
	}
	v.list = append(v.list, p)
}

// put puts the values into a polynomial, if all are known that stand in it.
func (v *values) put(p polynomial.Poly) (polynomial.Poly, bool) {
	if p.Mentions(func(k int) bool { return v.isUnknown[k] }) {
		return polynomial.Poly{}, false
	}
	return p.Put(func(k int) polynomial.Poly { return v.list[k] }), true
}

// needs puts the values into a polynomial without which a call can't be gone through.
func (v *values) needs(p polynomial.Poly) polynomial.Poly {
	out, ok := v.put(p)
	require(ok && !out.IsBeyond())
	return out
}

// call goes through a known call, by the callee's certificate.
func (w *walk) call(s *api.Step) fact {
	callee := &w.Funs[s.Code]
	taken := w.takenAt(s)
	c := w.of(s.Code, taken)
	require(c != nil)
	v := w.valuesAt(s, taken)
	without := map[int]bool{}
	for _, formal := range taken {
		without[s.Regions[formal]] = true
	}
	w.asksPeak(polynomial.Sum(w.now(without), v.needs(c.peak)))
	for region := range without {
		delete(w.held, region)
	}
	if w.grows(s, c, v, taken) {
		w.asksGrowth()
	}
	return w.result(s, callee, c, v)
}

// takenAt are the formals that a call hands to the callee for the last time, of those whose actuals are owned here.
func (w *walk) takenAt(s *api.Step) []int {
	var out []int
	for i, formal := range w.Funs[s.Code].Touch.Regions {
		if _, ok := w.held[s.Regions[formal]]; ok && s.Modes[i] == api.Last {
			out = append(out, formal)
		}
	}
	return out
}

func (w *walk) valuesAt(s *api.Step, taken []int) *values {
	out := &values{isUnknown: map[int]bool{}}
	for _, a := range s.Args {
		out.add(w.known(a).bound, w.known(a).isBounded)
	}
	for _, formal := range taken {
		out.add(w.held[s.Regions[formal]].now, true)
	}
	for i, a := range s.Args {
		costs := w.known(a).costs
		for k := range levelsOf(&w.Funs[s.Code].Params[i]) {
			if k < len(costs) {
				out.add(costs[k], true)
			} else {
				out.add(polynomial.Poly{}, false)
			}
		}
	}
	return out
}

// grows adds what regions grow by in a call, and tells whether some of them are those of others.
func (w *walk) grows(s *api.Step, c *certificate, v *values, taken []int) bool {
	touch := &w.Funs[s.Code].Touch
	isOthers := false
	left := c.growth
	for _, formal := range touch.Regions {
		if len(taken) > 0 && formal == taken[0] {
			taken = taken[1:]
			continue
		}
		isOther := w.adds(s.Regions[formal], v.needs(left[0]))
		isOthers = isOthers || isOther
		left = left[1:]
	}
	for k, variable := range touch.Vars {
		isOther := w.addsAll(&s.Effects[variable], v.needs(c.behind[k]))
		isOthers = isOthers || isOther
	}
	return isOthers
}

// result is what is known of what a call gives.
func (w *walk) result(s *api.Step, callee *api.Fun, c *certificate, v *values) fact {
	f := unknown(&s.Type)
	if c.isKnown && callee.Result.Kind != api.TVar && !hasCompound(&callee.Result, s.Types) {
		if size, ok := v.put(c.size); ok && !size.IsBeyond() {
			f = bounded(size)
		}
	}
	for _, cost := range c.calls {
		p, ok := v.put(cost)
		if !ok {
			break
		}
		require(!p.IsBeyond())
		f.costs = append(f.costs, p)
	}
	return f
}

// hasCompound tells whether a type variable stands for a tuple or a data type where its size counts: in the parts of a type.
func hasCompound(t *api.Type, types []api.Type) bool {
	if t.Kind == api.TVar {
		return isCompound(&types[t.N])
	}
	return isCompound(t) && slices.ContainsFunc(t.Args, func(part api.Type) bool { return hasCompound(&part, types) })
}

// apply goes through a call of a closure, by its cost.
func (w *walk) apply(s *api.Step) fact {
	costs := w.known(s.Args[0]).costs
	require(len(costs) > 0)
	w.asksPeak(polynomial.Sum(w.now(nil), costs[0]))
	if w.addsAll(&w.types[s.Args[0]].Effect, costs[0]) {
		w.asksGrowth()
	}
	f := unknown(&s.Type)
	f.costs = costs[1:]
	return f
}
