package place_test

import (
	"cmp"
	"maps"
	"slices"

	"heriot/api"
)

// formals are the function's formals in their order, and the origins of the hidden ones by their numbers.
func (a *attempt) formals() ([]int, map[int]from) {
	var out, hidden []int
	plain := a.standsAsRegion()
	for r := range a.homes {
		if a.isFormal(r) && plain[r] {
			out = append(out, r)
		} else if a.isFormal(r) {
			hidden = append(hidden, r)
		}
	}
	slices.SortFunc(out, func(x, y int) int { return cmp.Compare(a.key(x), a.key(y)) })
	slices.SortFunc(hidden, func(x, y int) int { return compare(a.originOf(x), a.originOf(y)) })
	origins := map[int]from{}
	for i, r := range hidden {
		origins[len(out)+i] = a.originOf(r)
	}
	return append(out, hidden...), origins
}

func compare(x, y from) int { return cmp.Or(cmp.Compare(x.fun, y.fun), cmp.Compare(x.place, y.place)) }

func (a *attempt) standsAsRegion() map[int]bool {
	out := map[int]bool{}
	for _, r := range regionsIn(append(slices.Clone(a.params), a.result)...) {
		out[a.sameAs[r]] = true
	}
	return out
}

// effectOf writes a set, where regions have numbers.
func (a *attempt) effectOf(c *contents, numbers map[int]int) api.Effect {
	var out api.Effect
	for r := range c.regions {
		out.Regions = append(out.Regions, numbers[r])
	}
	slices.Sort(out.Regions)
	out.Vars = slices.Sorted(maps.Keys(c.vars))
	return out
}

func (a *attempt) typeOf(t api.Type, numbers map[int]int) api.Type {
	if lies(t) {
		t.Region = numbers[a.sameAs[t.Region]]
	}
	if acts(t) {
		t.Effect = a.effectOf(a.of(t), numbers)
	}
	t.Args = each(t.Args, func(part api.Type) api.Type { return a.typeOf(part, numbers) })
	return t
}

// head is the signature.
func (a *attempt) head() *head {
	f := a.Funs[a.fn]
	formals, origins := a.formals()
	numbers := map[int]int{}
	for k, r := range formals {
		numbers[r] = k
	}
	h := &head{api.Fun{Name: f.Name, Unit: f.Unit, Types: f.Types, Regions: len(formals), Effects: len(a.own)}, origins}
	touched := &contents{map[int]bool{}, map[int]bool{}}
	for _, w := range a.steps {
		if len(w.lambda) > 0 {
			continue
		}
		for r := range a.touched(w) {
			if a.isFormal(r) {
				touched.regions[r] = true
			}
		}
		_, effects := a.touches(w)
		for _, e := range effects {
			maps.Copy(touched.vars, a.setOf(e).vars)
		}
	}
	h.Touch = a.effectOf(touched, numbers)
	toType := func(t api.Type) api.Type { return a.typeOf(t, numbers) }
	h.Params, h.Result = each(a.params, toType), toType(a.result)
	return h
}

// writer writes a function; what stands at a place is kept by the path of the step behind the place.
type writer struct {
	*attempt
	numbers map[int]int
	news    map[string][]int
	ends    map[string][]int
	unused  map[int]bool
	last    map[string]map[int]bool
}

func (a *attempt) write(h *head) api.Fun {
	w := &writer{a, map[int]int{}, map[string][]int{}, map[string][]int{}, map[int]bool{}, map[string]map[int]bool{}}
	formals, _ := a.formals()
	for k, r := range formals {
		w.numbers[r] = k
	}
	begun := map[int]bool{}
	for _, s := range a.steps {
		for r := range a.mentions(s) {
			if home := a.homes[r]; home != nil && !begun[r] {
				begun[r] = true
				at := s.at()[:len(home)+1]
				w.news[keyOf(at)] = append(w.news[keyOf(at)], r)
			}
		}
	}
	w.numberAll(a.Funs[a.fn].Body, path{})
	out := h.Fun
	for _, r := range h.Touch.Regions {
		w.giveBack(formals[r], path{}, 0)
	}
	w.giveLocals(a.Funs[a.fn].Body, path{})
	live := map[int]bool{}
	for _, r := range h.Touch.Regions {
		live[formals[r]] = true
	}
	out.Body = w.block(a.Funs[a.fn].Body, path{}, live)
	return out
}

func keyOf(p path) string {
	out := ""
	for _, n := range p {
		out += string(rune('0'+n)) + "/"
	}
	return out
}

// isAhead compares regions by their keys.
func (w *writer) isAhead(x, y int) int {
	kx, ky := w.key(x), w.key(y)
	switch {
	case kx < 0 && ky < 0:
		return compare(w.originOf(x), w.originOf(y))
	case kx < 0 || ky < 0:
		return cmp.Compare(ky, kx)
	}
	return cmp.Compare(kx, ky)
}

func (w *writer) numberAll(b api.Block, at path) {
	for i, s := range b.Steps {
		own := append(slices.Clone(at), i)
		list := w.news[keyOf(own)]
		slices.SortFunc(list, w.isAhead)
		for _, r := range list {
			w.numbers[r] = len(w.numbers)
		}
		for k, inner := range s.Blocks {
			w.numberAll(inner, append(slices.Clone(own), k))
		}
	}
}

func (w *writer) giveLocals(b api.Block, at path) {
	for i, s := range b.Steps {
		own := append(slices.Clone(at), i)
		for _, r := range w.news[keyOf(own)] {
			if len(w.touching(r, at, i)) == 0 {
				w.unused[r] = true
			} else {
				w.giveBack(r, at, i)
			}
		}
		for k, inner := range s.Blocks {
			w.giveLocals(inner, append(slices.Clone(own), k))
		}
	}
}

// step finds a step by its path.
func (w *writer) step(at path) *worn {
	return w.steps[slices.IndexFunc(w.steps, func(s *worn) bool { return slices.Equal(s.at(), at) })]
}

// touching are the steps of a block from one on that touch a region, in themselves or inside, rising.
func (w *writer) touching(r int, block path, begin int) []int {
	found := map[int]bool{}
	for _, s := range w.steps {
		if !isIn(s.block, block) || !w.touched(s)[r] {
			continue
		}
		if i := s.at()[len(block)]; i >= begin && !w.isBehindLambda(s, block) {
			found[i] = true
		}
	}
	return slices.Sorted(maps.Keys(found))
}

// isBehindLambda tells whether a step stands in a lambda that stands in a block.
func (w *writer) isBehindLambda(s *worn, block path) bool { return len(s.lambda) > len(block) }

func (w *writer) giveBack(r int, block path, begin int) {
	all := w.touching(r, block, begin)
	if len(all) == 0 {
		w.endAt(r, block, begin)
		return
	}
	own := append(slices.Clone(block), all[len(all)-1])
	s := w.step(own)
	inner := func(k int) path { return append(slices.Clone(own), k) }
	switch {
	case s.Op == api.OCall && w.hands(r, s):
	case s.Op == api.OIf || s.Op == api.OCase:
		for k := range s.Blocks {
			w.giveBack(r, inner(k), 0)
		}
	case s.Op == api.OHandle:
		isBehind := false
		for k := 1; k < len(s.Blocks); k++ {
			isBehind = isBehind || len(w.touching(r, inner(k), 0)) > 0
		}
		for k := range s.Blocks {
			if isBehind == (k > 0) {
				w.giveBack(r, inner(k), 0)
			}
		}
	default:
		w.endAt(r, block, all[len(all)-1]+1)
	}
}

func (w *writer) endAt(r int, block path, at int) {
	key := keyOf(append(slices.Clone(block), at))
	w.ends[key] = append(w.ends[key], w.numbers[r])
}

// hands tells whether a call gives a region up.
func (w *writer) hands(r int, s *worn) bool {
	count, which := 0, 0
	for k, name := range s.regs {
		if w.sameAs[name] == r {
			count, which = count+1, k
		}
	}
	if count != 1 || !slices.Contains(s.callee.Touch.Regions, which) {
		return false
	}
	for k := range s.effs {
		if w.effectsOf(s, k).regions[r] {
			return false
		}
	}
	key := keyOf(s.at())
	if w.last[key] == nil {
		w.last[key] = map[int]bool{}
	}
	w.last[key][which] = true
	return true
}

// block writes a block, and leaves in live what is so at its end.
func (w *writer) block(b api.Block, at path, live map[int]bool) api.Block {
	out := api.Block{Code: b.Code, Bind: b.Bind, Value: b.Value}
	for i := 0; i <= len(b.Steps); i++ {
		own := append(slices.Clone(at), i)
		ends := w.ends[keyOf(own)]
		slices.Sort(ends)
		for _, n := range ends {
			out.Steps = append(out.Steps, api.Step{Op: api.OEnd, Out: -1, Region: n})
			maps.DeleteFunc(live, func(r int, _ bool) bool { return w.numbers[r] == n })
		}
		for _, r := range w.news[keyOf(own)] {
			out.Steps = append(out.Steps, api.Step{Op: api.ONew, Out: -1, Region: w.numbers[r]})
			if w.unused[r] {
				out.Steps = append(out.Steps, api.Step{Op: api.OEnd, Out: -1, Region: w.numbers[r]})
			} else {
				live[r] = true
			}
		}
		if i < len(b.Steps) {
			out.Steps = append(out.Steps, w.written(w.step(own), live))
		}
	}
	return out
}

func (w *writer) written(s *worn, live map[int]bool) api.Step {
	toType := func(t api.Type) api.Type { return w.typeOf(t, w.numbers) }
	out := api.Step{Op: s.Op, Out: s.Out, Type: toType(s.typ), Args: s.Args, Int: s.Int, Code: s.Code, Types: each(s.types, toType)}
	if isMaking(s.Step) {
		out.Region = out.Type.Region
	}
	for k, name := range s.regs {
		out.Regions = append(out.Regions, w.numbers[w.sameAs[name]])
		if w.last[keyOf(s.at())][k] {
			delete(live, w.sameAs[name])
		}
	}
	for k := range s.effs {
		out.Effects = append(out.Effects, w.effectOf(w.effectsOf(s, k), w.numbers))
	}
	if s.callee != nil {
		for _, k := range s.callee.Touch.Regions {
			mode := api.Keep
			if w.last[keyOf(s.at())][k] {
				mode = api.Last
			}
			out.Modes = append(out.Modes, mode)
		}
	}
	begin := maps.Clone(live)
	for k, b := range s.Blocks {
		own := maps.Clone(begin)
		if s.Op == api.OFn {
			own = map[int]bool{}
		}
		out.Blocks = append(out.Blocks, w.block(b, append(s.at(), k), own))
		if s.Op == api.OHandle && k == 0 {
			for r := range own {
				out.Keep = append(out.Keep, w.numbers[r])
			}
			slices.Sort(out.Keep)
			begin = own
		} else if s.Op != api.OFn {
			clear(live)
			maps.Copy(live, own)
		}
	}
	return out
}
