package bounds

import (
	"heriot/api"
	"heriot/groups"
	"heriot/polynomial"
)

// The method's limits: a group is worked out in so many rounds at most, a place is raised by itself in so many of them, and no number gets greater than this.
const (
	mostRounds = 40
	mostRaises = 2
	mostFound  = 1 << 40
)

// goal is a certificate that is looked for.
type goal struct {
	certificate
	rounds map[place]int // in how many rounds a place has been raised
}

// seeker looks for certificates.
type seeker struct {
	*program
	isBare bool // lambdas are not gone into, and of results nothing is asked
	byKey  map[string]*goal
}

// found are certificates of a program, if some are found: by the chapter's method; or else by one that knows no costs of closures and no sizes of results. These may be beyond all bounds where nothing needs them.
func found(w *program) ([]api.Cert, bool) {
	for _, isBare := range []bool{false, true} {
		s := &seeker{w, isBare, map[string]*goal{}}
		certs, ok := s.seek()
		if !ok {
			continue
		}
		if known, ok := w.shaped(certs); ok && w.allHold(known) {
			return certs, true
		}
	}
	return nil, false
}

func (s *seeker) seek() ([]api.Cert, bool) {
	var certs []api.Cert
	for _, group := range groups.Of([]*goal{s.goalOf(s.Main, nil)}, s.goalsOf) {
		if !s.work(group) {
			return nil, false
		}
		for _, g := range group {
			certs = append(certs, s.written(&g.certificate))
		}
	}
	return certs, true
}

// goalOf is the goal of a function for some regions of its own. At first it says that nothing is needed.
func (s *seeker) goalOf(fun int, mine []int) *goal {
	own := subject{fun, mine}
	key := own.key()
	if s.byKey[key] == nil {
		f := &s.Funs[fun]
		g := &goal{certificate{subject: own}, map[place]int{}}
		g.growth = make([]polynomial.Poly, len(f.Touch.Regions)-len(mine))
		g.behind = make([]polynomial.Poly, len(f.Touch.Vars))
		if !s.isBare {
			g.isKnown = true
			g.calls = make([]polynomial.Poly, levelsOf(&f.Result))
		}
		s.byKey[key] = g
	}
	return s.byKey[key]
}

// goalsOf are the goals of the calls of a goal's function, in the order of the text.
func (s *seeker) goalsOf(g *goal) []*goal {
	f := &s.Funs[g.fun]
	owned := map[int]bool{}
	for _, r := range g.mine {
		owned[r] = true
	}
	var out []*goal
	for _, call := range s.callsIn(&f.Body) {
		var taken []int
		for i, formal := range s.Funs[call.Code].Touch.Regions {
			actual := call.Regions[formal]
			if call.Modes[i] == api.Last && (actual >= f.Regions || owned[actual]) {
				taken = append(taken, formal)
			}
		}
		out = append(out, s.goalOf(call.Code, taken))
	}
	return out
}

// callsIn are the known calls in a block, at all depths.
func (s *seeker) callsIn(b *api.Block) []*api.Step {
	var out []*api.Step
	for i := range b.Steps {
		step := &b.Steps[i]
		if step.Op == api.OCall {
			out = append(out, step)
		}
		if step.Op == api.OFn && s.isBare {
			continue
		}
		for j := range step.Blocks {
			out = append(out, s.callsIn(&step.Blocks[j])...)
		}
	}
	return out
}

// work works out a group, whose other callees are worked out; and tells whether it could.
func (s *seeker) work(group []*goal) bool {
	of := func(fun int, mine []int) *certificate {
		if g := s.byKey[subject{fun, mine}.key()]; g != nil {
			return &g.certificate
		}
		return nil
	}
	for range mostRounds {
		isDone := true
		for _, g := range group {
			r := newRaiser(len(g.calls))
			w := s.newWalk(&g.certificate, r, of)
			w.isBare = s.isBare
			if !w.run() {
				return false
			}
			hasChanged, ok := g.raise(r)
			if !ok {
				return false
			}
			isDone = isDone && !hasChanged
		}
		if isDone {
			return true
		}
	}
	return false
}
