package bounds

import (
	"maps"

	"heriot/polynomial"
)

// amount is how many words are held, or have been added, and how many these have been at most.
type amount struct{ now, high polynomial.Poly }

// state is what has been made at a place of a walk.
type state struct {
	held   map[int]amount  // in the regions that are owned and live
	grown  map[int]amount  // in other regions, as far as something was added
	behind map[int]amount  // in regions that stand for effect variables
	cost   polynomial.Poly // what an application of the lambda needs so far
}

func newState() state {
	return state{held: map[int]amount{}, grown: map[int]amount{}, behind: map[int]amount{}}
}

func (s *state) clone() state {
	return state{maps.Clone(s.held), maps.Clone(s.grown), maps.Clone(s.behind), s.cost}
}

// changed is the state with something done to each polynomial.
func (s *state) changed(change func(polynomial.Poly) polynomial.Poly) state {
	each := func(of map[int]amount) map[int]amount {
		out := map[int]amount{}
		for key, a := range of {
			out[key] = amount{change(a.now), change(a.high)}
		}
		return out
	}
	return state{each(s.held), each(s.grown), each(s.behind), change(s.cost)}
}

// now is all that has been made, but for what is held in some regions.
func (s *state) now(without map[int]bool) polynomial.Poly {
	var list []polynomial.Poly
	for region, a := range s.held {
		if !without[region] {
			list = append(list, a.now)
		}
	}
	for _, a := range s.grown {
		list = append(list, a.now)
	}
	for _, a := range s.behind {
		list = append(list, a.now)
	}
	return polynomial.Sum(list...)
}

// raised is the state in an arm of a handle, behind an exception that came at any place up to here: all may be as high as it has been, and what is not kept has gone.
func (s *state) raised(keep []int) state {
	high := func(of map[int]amount) map[int]amount {
		out := map[int]amount{}
		for key, a := range of {
			out[key] = amount{a.high, a.high}
		}
		return out
	}
	out := state{map[int]amount{}, high(s.grown), high(s.behind), s.cost}
	for _, region := range keep {
		if a, ok := s.held[region]; ok {
			out.held[region] = amount{a.high, a.high}
		}
	}
	return out
}

// joinedState is the state behind blocks of which one has been gone through, from a state ahead of them.
func joinedState(ahead *state, ends []ending) state {
	out := newState()
	out.cost = ahead.cost
	for i := range ends {
		joinAmounts(out.held, ends[i].held)
		joinAmounts(out.grown, ends[i].grown)
		joinAmounts(out.behind, ends[i].behind)
		out.cost = polynomial.Greatest(out.cost, ends[i].cost)
	}
	raiseHighs(out.held, ahead.held)
	raiseHighs(out.grown, ahead.grown)
	raiseHighs(out.behind, ahead.behind)
	return out
}

func joinAmounts(to, from map[int]amount) {
	for key, a := range from {
		to[key] = amount{polynomial.Greatest(to[key].now, a.now), polynomial.Greatest(to[key].high, a.high)}
	}
}

// raiseHighs raises the highs of what is there to those ahead.
func raiseHighs(to, ahead map[int]amount) {
	for key, a := range ahead {
		if own, ok := to[key]; ok {
			to[key] = amount{own.now, polynomial.Greatest(own.high, a.high)}
		}
	}
}
