package place_test

import (
	"math/rand"
	"slices"
	"testing"

	"heriot/api"
	"heriot/samples"
	"heriot/steps"
)

// makings are the regions of the steps of a function that make cells, in the order of the text.
func makings(f *api.Fun) []int {
	var out []int
	eachStep(f.Body, nil, nil, func(s api.Step, _, _ path, _ int) {
		if isMaking(s) {
			out = append(out, s.Region)
		}
	})
	return out
}

// TestFinest: P6.4 (and P5), for region programs by chance that Check takes.
func TestFinest(t *testing.T) {
	t.Parallel()
	pairs, finer := 0, 0
	for seed := range 10 * rounds {
		r := samples.Regions(seed)
		if seed%2 == 0 {
			r = samples.Mutual(seed)
		}
		q := placed(t, steps.Erase(r))
		for k := range r.Funs {
			x, y := makings(&q.Funs[k]), makings(&r.Funs[k])
			for i := range x {
				for j := range i {
					if x[i] == x[j] {
						pairs++
						if y[i] != y[j] {
							t.Fatalf("%d: makings %d and %d of function %d are in one region: %s, not: %s", seed, j, i, k, write(q), write(r))
						}
					} else if y[i] == y[j] {
						finer++
					}
				}
			}
		}
	}
	if pairs < 10*rounds || finer < 10*rounds {
		t.Errorf("too few cases: %d and %d", pairs, finer)
	}
}

// relax lets a region of a program live longer in some way: an end later, a begin earlier, a call that keeps, an end behind blocks, or one in the arms of a handle.
func relax(some *rand.Rand, p *api.Program) {
	var blocks []*api.Block
	eachBlock(p, func(_ api.Spot, b *api.Block) { blocks = append(blocks, b) })
	b := blocks[some.Intn(len(blocks))]
	if len(b.Steps) == 0 {
		return
	}
	i := some.Intn(len(b.Steps))
	s := &b.Steps[i]
	switch {
	case s.Op == api.OEnd && i+1 < len(b.Steps):
		b.Steps[i], b.Steps[i+1] = b.Steps[i+1], b.Steps[i]
	case s.Op == api.ONew && i > 0:
		b.Steps[i], b.Steps[i-1] = b.Steps[i-1], b.Steps[i]
	case slices.Contains(s.Modes, api.Last):
		k := slices.Index(s.Modes, api.Last)
		s.Modes[k] = api.Keep
		b.Steps = slices.Insert(b.Steps, i+1, end(s.Regions[p.Funs[s.Code].Touch.Regions[k]]))
	case s.Op == api.OHandle:
		if r, ok := takeEnd(some, &s.Blocks[0]); ok {
			s.Keep = append(s.Keep, r)
			slices.Sort(s.Keep)
			for k := range s.Blocks[1:] {
				s.Blocks[k+1].Steps = slices.Insert(s.Blocks[k+1].Steps, 0, end(r))
			}
		}
	case len(s.Blocks) > 0:
		r, ok := takeEnd(some, &s.Blocks[0])
		for k := range s.Blocks[1:] {
			inner := &s.Blocks[k+1]
			inner.Steps = slices.DeleteFunc(inner.Steps, func(e api.Step) bool { return ok && e.Op == api.OEnd && e.Region == r })
		}
		if ok {
			b.Steps = slices.Insert(b.Steps, i+1, end(r))
		}
	}
}

// takeEnd takes one of the ends out of a block, if it has any.
func takeEnd(some *rand.Rand, b *api.Block) (int, bool) {
	var at []int
	for i, s := range b.Steps {
		if s.Op == api.OEnd {
			at = append(at, i)
		}
	}
	if len(at) == 0 {
		return 0, false
	}
	i := at[some.Intn(len(at))]
	r := b.Steps[i].Region
	b.Steps = slices.Delete(b.Steps, i, i+1)
	return r, true
}

// TestBest: P6.7: programs with the same regions that live longer.
func TestBest(t *testing.T) {
	t.Parallel()
	count, more := 0, 0
	for seed := range 2 * rounds {
		some := rand.New(rand.NewSource(int64(seed)))
		m := sample(t, seed)
		q := placed(t, m.Program)
		text := samples.Write(q)
		r := q
		for range 20 {
			next := samples.Program(text)
			next.Main = q.Main
			relax(some, &next)
			if e, _ := steps.Check(next); e == api.OK {
				r, text = next, samples.Write(next)
			}
		}
		if text == samples.Write(q) {
			continue
		}
		count++
		for n := range int64(6) {
			args := []int64{n, m.args[1]}
			x, y := cellsOf(steps.Run(q, args, m.fuel)), cellsOf(steps.Run(r, args, m.fuel))
			if len(x) != len(y) {
				t.Fatalf("%d with %v: %d events of cells, not %d: %s", seed, args, len(x), len(y), text)
			}
			for i := range x {
				if x[i].Kind != y[i].Kind || x[i].Words != y[i].Words || x[i].Held > y[i].Held {
					t.Fatalf("%d with %v: event %d: %+v, but %+v: %s", seed, args, i, x[i], y[i], text)
				}
				if x[i].Held < y[i].Held {
					more++
				}
			}
		}
	}
	if count < rounds || more < rounds {
		t.Errorf("too few cases: %d, %d events at which less is held", count, more)
	}
}

// cellsOf are the events of a run at which cells are made or touched.
func cellsOf(r api.Run) []api.Event {
	return slices.DeleteFunc(r.Events, func(e api.Event) bool { return e.Kind != api.VAlloc && e.Kind != api.VTouch })
}

// typesOf are the types of a function, at all depths: of Params, Result, Type and Types.
func typesOf(f *api.Fun) []api.Type {
	list := append(slices.Clone(f.Params), f.Result)
	eachStep(f.Body, nil, nil, func(s api.Step, _, _ path, _ int) {
		if !isOfRegion(s) {
			list = append(append(list, s.Type), s.Types...)
		}
	})
	var out []api.Type
	var walk func(t api.Type)
	walk = func(t api.Type) {
		if lies(t) {
			out = append(out, t)
		}
		for _, a := range t.Args {
			walk(a)
		}
	}
	for _, t := range list {
		walk(t)
	}
	return out
}

// areAlike tells whether two places of types have the same region in one function just if they have in another one.
func areAlike(x, y []api.Type) bool {
	there, back := map[int]int{}, map[int]int{}
	for i := range x {
		a, isA := there[x[i].Region]
		b, isB := back[y[i].Region]
		if isA != isB || isA && (a != y[i].Region || b != x[i].Region) {
			return false
		}
		there[x[i].Region], back[y[i].Region] = y[i].Region, x[i].Region
	}
	return true
}

// lacks tells whether an effect of q has something that the one of r at the same place has not.
func lacks(q, r *api.Fun, of, in api.Effect) bool {
	x, y := typesOf(q), typesOf(r)
	for _, region := range of.Regions {
		i := slices.IndexFunc(x, func(t api.Type) bool { return t.Region == region })
		if i >= 0 && !slices.Contains(in.Regions, y[i].Region) {
			return true
		}
	}
	own := (&head{Fun: *q}).different()
	all, others := effectsIn(append(slices.Clone(q.Params), q.Result)...), effectsIn(append(slices.Clone(r.Params), r.Result)...)
	for _, v := range of.Vars {
		e := others[slices.IndexFunc(all, func(e api.Effect) bool { return isSameEffect(e, own[v]) })]
		if slices.ContainsFunc(e.Regions, func(n int) bool { return !slices.Contains(in.Regions, n) }) {
			return true
		}
		if slices.ContainsFunc(e.Vars, func(n int) bool { return !slices.Contains(in.Vars, n) }) {
			return true
		}
	}
	return false
}

// hidesInGroup tells whether a function that calls itself, perhaps over others, has hidden formals.
func hidesInGroup(q api.Program) bool {
	reach := (&judge{Program: q}).reach()
	for i, f := range q.Funs {
		plain := regionsIn(append(slices.Clone(f.Params), f.Result)...)
		for r := range f.Regions {
			if reach[i][i] && !slices.Contains(plain, r) {
				return true
			}
		}
	}
	return false
}

// TestLeast: P6.8: programs whose effects have more than they need.
func TestLeast(t *testing.T) {
	t.Parallel()
	count := 0
	for seed := range 5 * rounds {
		some := rand.New(rand.NewSource(int64(seed)))
		m := sample(t, seed)
		if m.isLong() {
			continue
		}
		fn, effect, region := some.Intn(len(m.Funs)), some.Intn(50), some.Intn(50)
		r := judgedWith(m.Program, func(a *attempt) { a.addMore(fn, effect, region) })
		q := placed(t, m.Program)
		if e, _ := steps.Check(r); e != api.OK || hidesInGroup(q) || samples.Write(r) == samples.Write(q) {
			continue
		}
		isAlike := true
		for k := range q.Funs {
			isAlike = isAlike && areAlike(typesOf(&q.Funs[k]), typesOf(&r.Funs[k]))
		}
		if !isAlike {
			continue
		}
		count++
		for k := range q.Funs {
			f, g := &q.Funs[k], &r.Funs[k]
			isMore := lacks(f, g, f.Touch, g.Touch)
			x, y := typesOf(f), typesOf(g)
			for i := range x {
				isMore = isMore || lacks(f, g, x[i].Effect, y[i].Effect)
			}
			if isMore {
				t.Fatalf("%d: function %d has more than it needs: %s, and with less: %s", seed, k, write(q), write(r))
			}
		}
	}
	if count < rounds/2 {
		t.Errorf("too few cases: %d", count)
	}
}

// addMore lets an effect of a function have a region, by their places.
func (a *attempt) addMore(fn, effect, region int) {
	types := append(slices.Clone(a.params), a.result)
	for _, w := range a.steps {
		types = append(types, w.typ)
	}
	effects := effectsIn(types...)
	if a.fn == fn && len(effects) > 0 && len(a.places) > 0 {
		a.setOf(effects[effect%len(effects)].Vars[0]).regions[a.sameAs[a.places[region%len(a.places)]]] = true
	}
}
