package bounds

import (
	"math"

	"heriot/api"
	"heriot/polynomial"
)

// branch is a block that is gone through, from a state of its own, with what is known in it.
type branch struct {
	*api.Block
	begin state
	knows func()
}

// ending is what the walk through a block has come to.
type ending struct {
	state
	value fact
}

// through goes through a block, and gives what it comes to, unless it is at the end of the function. The state has to be set behind it.
func (w *walk) through(b branch, isAtEnd bool) ending {
	m := w.mark()
	w.state = b.begin
	b.knows()
	w.block(b.Block, isAtEnd)
	var out ending
	if !isAtEnd {
		out = ending{w.state, w.known(b.Value)}
		for len(w.splits) > m.splits {
			out.unsplit(w.splits.Pop())
		}
	}
	w.back(m)
	return out
}

// unsplit puts the sum back as which a path variable was put.
func (e *ending) unsplit(s polynomial.Split) {
	back := func(p polynomial.Poly) polynomial.Poly { return p.Unsplit(s) }
	e.state = e.state.changed(back)
	e.value.bound = back(e.value.bound)
	e.value.costs = allChanged(e.value.costs, back)
}

// branches goes through the blocks of a step, and gives what is known of its Out; unless it is at the end of the function.
func (w *walk) branches(s *api.Step, isAtEnd bool) fact {
	ahead := w.state.clone()
	var list []branch
	if s.Op == api.OHandle {
		list = w.tried(s)
	} else {
		for i := range s.Blocks {
			list = append(list, branch{&s.Blocks[i], ahead.clone(), func() { w.chosen(s, i) }})
		}
	}
	var ends []ending
	var values []fact
	for _, b := range list {
		end := w.through(b, isAtEnd)
		ends = append(ends, end)
		values = append(values, end.value)
	}
	if isAtEnd {
		return fact{}
	}
	w.state = joinedState(&ahead, ends)
	return joined(values)
}

// tried goes through the first block of a handle, and gives what may come behind it.
func (w *walk) tried(s *api.Step) []branch {
	body := w.through(branch{&s.Blocks[0], w.state.clone(), func() {}}, false)
	value := body.value
	value.isConstant, value.constant, value.test = false, 0, nil
	list := []branch{{&s.Blocks[1], body.clone(), func() { w.set(s.Blocks[1].Bind[0], value) }}}
	for i := range s.Blocks[2:] {
		arm := &s.Blocks[2+i]
		list = append(list, branch{arm, body.raised(s.Keep), func() { w.set(arm.Bind[0], fact{}) }})
	}
	return list
}

// chosen knows what is so in a block of an OIf, or of an OCase.
func (w *walk) chosen(s *api.Step, block int) {
	if s.Op == api.OCase {
		w.binds(w.known(s.Args[0]), s.Blocks[block].Bind)
		return
	}
	test := w.known(s.Args[0]).test
	if test == nil {
		return
	}
	x, y := test.Args[0], test.Args[1]
	if c := w.known(x); block == 0 && c.isConstant {
		// Nothing is above the greatest int: then this block is never gone through.
		w.atLeast(y, min(c.constant, math.MaxInt64-1)+1)
	}
	if c := w.known(y); block == 1 && c.isConstant {
		w.atLeast(x, c.constant)
	}
}

// atLeast knows that an int is not below a number. If its bound is a path variable, that is not below it either.
func (w *walk) atLeast(v int, least int64) {
	f := w.known(v)
	if !f.hasLeast || f.least < least {
		f.hasLeast, f.least = true, least
		w.set(v, f)
	}
	if u, ok := w.single(f); ok && least >= 1 && least <= api.MaxArray {
		w.split(u, least, 1)
	}
}

// single is the path variable that a bound is, if it is just one.
func (w *walk) single(f fact) (int, bool) {
	if !f.isBounded {
		return 0, false
	}
	u, ok := f.bound.Single()
	return u, ok && !w.paths[u].isSeveral
}

// binds knows what the fields of a constructor are, by what is known of the value. Those that are used have path variables of their own. All others share one: no polynomial tells these apart, and a constructor may have thousands of fields.
func (w *walk) binds(of fact, bind []int) {
	if len(bind) == 0 {
		return
	}
	var told []int
	others := 0
	for _, v := range bind {
		w.set(v, unknown(w.types[v]))
		if isCompound(w.types[v]) && w.used[v] {
			told = append(told, v)
		} else if isCompound(w.types[v]) {
			others++
		}
	}
	words := int64(1 + len(bind))
	if u, ok := w.single(of); ok {
		first := w.split(u, words, len(told)+1)
		w.paths[first+len(told)].isSeveral = others > 0
		for k, v := range told {
			w.set(v, bounded(polynomial.Variable(first+k)))
		}
	} else if of.isBounded {
		for _, v := range told {
			w.set(v, bounded(of.bound.Less(words)))
		}
	}
}

// lambda goes through the block of a lambda, and gives the costs of its closures, as far as they are known.
func (w *walk) lambda(s *api.Step) (costs []polynomial.Poly) {
	if w.isBare {
		return nil
	}
	m, around := w.mark(), w.state
	defer func() {
		if r := recover(); r != nil {
			if _, ok := r.(stop); !ok {
				panic(r)
			}
		}
		w.back(m)
		w.state = around
	}()
	b := &s.Blocks[0]
	w.isLambda, w.state = true, newState()
	w.set(b.Bind[0], unknown(&s.Type.Args[0]))
	w.block(b, false)
	return append([]polynomial.Poly{w.cost}, w.known(b.Value).costs...)
}
