package bounds

import (
	"heriot/api"
	"heriot/polynomial"
	"heriot/stack"
)

// judge is asked whether what a walk comes to keeps to its certificate.
type judge interface {
	// keepsTo is asked of a polynomial, and of one that the certificate says.
	keepsTo(w *walk, p polynomial.Poly, what claim)
	// lacksSize is told that a result's size is not known.
	lacksSize()
	// lacksCosts is told how many costs of a result are known, where these are too few.
	lacksCosts(count int)
}

// stop is the panic by which a walk ends that can't go on.
type stop struct{}

func require(ok bool) {
	if !ok {
		panic(stop{})
	}
}

// walk goes through the body of a function, for one certificate.
type walk struct {
	*program
	*text
	judge
	of        func(fun int, mine []int) *certificate // of the callees
	isBare    bool                                   // lambdas are not gone into
	certified int                                    // how many of the path variables are the certificate's own: the first ones
	numbers   map[int]int                            // of the regions of Touch that are not its own: the numbers of their Growth
	claims    claims                                 // in the path variables
	facts     map[int]*fact                          // of the variables that are in scope
	changes   stack.Of[change]
	paths     stack.Of[path]             // the path variables
	splits    stack.Of[polynomial.Split] // of path variables that were put as sums on this path
	isLambda  bool
	state
}

// path is a path variable: the variable of the certificate that it came from, and whether it stands for several ones that nothing tells apart.
type path struct {
	origin    int
	isSeveral bool
}

// change is what was known of a variable ahead of a change, if it was there.
type change struct {
	variable int
	was      *fact
}

// newWalk is a walk at the begin of a function.
func (w *program) newWalk(c *certificate, j judge, of func(fun int, mine []int) *certificate) *walk {
	out := &walk{program: w, text: w.textOf(c.fun), judge: j, of: of, numbers: map[int]int{}, claims: c.claims, facts: map[int]*fact{}, state: newState()}
	out.certified = w.variablesOf(c.subject)
	for v := range out.certified {
		out.paths.Push(path{origin: v})
	}
	for k, r := range c.mine {
		own := polynomial.Variable(len(out.Params) + k)
		out.held[r] = amount{own, own}
	}
	for _, r := range out.Touch.Regions {
		if _, ok := out.held[r]; !ok {
			number := len(out.numbers)
			out.numbers[r] = number
		}
	}
	next := len(out.Params) + len(c.mine)
	for i := range out.Params {
		f := bounded(polynomial.Variable(i))
		for range levelsOf(&out.Params[i]) {
			f.costs = append(f.costs, polynomial.Variable(next))
			next++
		}
		out.set(i, f)
	}
	return out
}

// run goes through the whole body, and tells whether it has come to the end.
func (w *walk) run() (ok bool) {
	defer func() {
		// A walk that stops leaves false.
		_ = recover()
	}()
	w.asksPeak(w.now(nil))
	w.block(&w.Body, true)
	return true
}

// set says what is known of a variable.
func (w *walk) set(v int, f fact) {
	f.splits = len(w.splits)
	w.store(v, &f)
}

func (w *walk) store(v int, f *fact) {
	w.changes.Push(change{v, w.facts[v]})
	w.facts[v] = f
}

// known is what is known of a variable. What was put since its bound became known is put into that where it is asked for: most bounds never are.
func (w *walk) known(v int) fact {
	f := *w.facts[v]
	for _, s := range w.splits[f.splits:] {
		if f.isBounded {
			own := bounded(f.bound.Split(s))
			f.isBounded, f.bound = own.isBounded, own.bound
		}
	}
	f.splits = len(w.splits)
	return f
}

// mark is a place of a walk to which it comes back.
type mark struct {
	changes, paths, splits int
	claims                 claims
	isLambda               bool
}

func (w *walk) mark() mark {
	return mark{len(w.changes), len(w.paths), len(w.splits), w.claims, w.isLambda}
}

// back forgets what has become known since a mark, and the path variables that began. The state has to be set.
func (w *walk) back(m mark) {
	for len(w.changes) > m.changes {
		c := w.changes.Pop()
		if c.was == nil {
			delete(w.facts, c.variable)
		} else {
			w.facts[c.variable] = c.was
		}
	}
	w.paths, w.splits = w.paths[:m.paths], w.splits[:m.splits]
	w.claims, w.isLambda = m.claims, m.isLambda
}

// split puts a path variable as a sum, of a number and so many new ones, in all polynomials of the walk; and gives the first of the new ones.
func (w *walk) split(variable int, number int64, count int) int {
	s := polynomial.Split{Variable: variable, Number: number, First: len(w.paths), Count: count}
	for range count {
		w.paths.Push(path{origin: w.paths[variable].origin})
	}
	w.splits.Push(s)
	put := func(p polynomial.Poly) polynomial.Poly {
		p = p.Split(s)
		require(!p.IsBeyond())
		return p
	}
	w.claims = w.claims.changed(put)
	w.state = w.state.changed(put)
	for v, f := range w.facts {
		if f.hasCost(variable) {
			own := *f
			own.costs = allChanged(f.costs, put)
			w.store(v, &own)
		}
	}
	return s.First
}

// asksPeak asks whether what is needed at a moment is at most what the certificate says; of a lambda it is what an application costs.
func (w *walk) asksPeak(p polynomial.Poly) {
	require(!p.IsBeyond())
	if w.isLambda {
		w.cost = polynomial.Greatest(w.cost, p)
	} else {
		w.keepsTo(w, p, claim{ofPeak, 0})
	}
}

// asksGrowth asks whether what has been added to regions of others is at most what the certificate says.
func (w *walk) asksGrowth() {
	if w.isLambda {
		return
	}
	for region, a := range w.grown {
		w.keepsTo(w, a.now, claim{ofGrowth, w.numbers[region]})
	}
	for k, v := range w.Touch.Vars {
		if a, ok := w.behind[v]; ok {
			w.keepsTo(w, a.now, claim{ofBehind, k})
		}
	}
}

// asksResult asks whether the value with which a call ends is as the certificate says.
func (w *walk) asksResult(value fact) {
	if w.claims.isKnown && value.isBounded {
		w.keepsTo(w, value.bound, claim{ofSize, 0})
	} else if w.claims.isKnown {
		w.lacksSize()
	}
	if len(value.costs) < len(w.claims.calls) {
		w.lacksCosts(len(value.costs))
	}
	for k := range min(len(value.costs), len(w.claims.calls)) {
		w.keepsTo(w, value.costs[k], claim{ofCalls, k})
	}
}

func addTo(of map[int]amount, key int, words polynomial.Poly) {
	now := polynomial.Sum(of[key].now, words)
	require(!now.IsBeyond())
	of[key] = amount{now, polynomial.Greatest(of[key].high, now)}
}

// adds adds words to a region, and tells whether that is others'.
func (w *walk) adds(region int, words polynomial.Poly) bool {
	if _, ok := w.held[region]; ok {
		addTo(w.held, region, words)
		return false
	}
	addTo(w.grown, region, words)
	return true
}

// addsAll adds words to all regions, and behind all variables, of an effect, and tells whether some of these are others'.
func (w *walk) addsAll(e *api.Effect, words polynomial.Poly) bool {
	isOthers := len(e.Vars) > 0
	for _, r := range e.Regions {
		isOther := w.adds(r, words)
		isOthers = isOthers || isOther
	}
	for _, v := range e.Vars {
		addTo(w.behind, v, words)
	}
	return isOthers
}

// makes makes a cell.
func (w *walk) makes(region int, words polynomial.Poly) {
	isOther := w.adds(region, words)
	w.asksPeak(w.now(nil))
	if isOther {
		w.asksGrowth()
	}
}
