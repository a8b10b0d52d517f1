package place_test

import (
	"maps"
	"slices"
	"strconv"

	"heriot/api"
)

// judge places a program as the chapter says it: round by round, each time with new names; what is the same as what is a map that is written anew with each asking; sets are maps, and blocks are paths. Place is held against it.
type judge struct {
	api.Program
	heads []*head // of the functions that are done
	out   []api.Fun
	more  func(a *attempt) // adds to the sets of effects what the chapter does not ask for
}

// head is a signature. Of a function of a group that is worked on, its hidden regions have origins.
type head struct {
	api.Fun
	origins map[int]from
}

type from struct{ fun, place int }

// attempt is a function in one round. A dressed type has the name of its region as its region, and that of its effect as the only variable of its effect.
type attempt struct {
	*judge
	fn              int
	heads           map[int]*head // of the group in the round ahead
	next            int
	sameAs, alikeAs map[int]int // the least name that is the same: of regions, of effects
	places          []int       // the names at the function's places
	types           map[int]api.Type
	params          []api.Type
	result          api.Type
	steps           []*worn
	foreign         map[from]int
	own             map[int]int // the numbers of effect variables, by names
	sets            map[int]*contents
	homes           map[int]path
}

// worn is a step with the names that it has.
type worn struct {
	api.Step
	index  int
	block  path // in which it stands
	lambda path // the block of the innermost lambda around it, or the body
	typ    api.Type
	types  []api.Type
	callee *head
	regs   []int
	effs   []int
}

type contents struct{ regions, vars map[int]bool }

// path is a block: the body has an empty one, what is around the body has none.
type path []int

// at is the path of a step.
func (w *worn) at() path { return append(slices.Clone(w.block), w.index) }

// judged is what Place has to make of a flat program.
func judged(p api.Program) api.Program { return judgedWith(p, nil) }

func judgedWith(p api.Program, more func(*attempt)) api.Program {
	j := newJudge(p)
	j.more = more
	j.work(0, len(p.Funs))
	out := api.Program{Exns: p.Exns, Funs: j.out, Main: p.Main}
	for _, d := range p.Datas {
		own := api.Data{Name: d.Name, Vars: d.Vars}
		for _, c := range d.Cons {
			own.Cons = append(own.Cons, api.Con{Name: c.Name, Fields: each(c.Fields, withZero)})
		}
		out.Datas = append(out.Datas, own)
	}
	return out
}

// judgedUnit is what PlaceUnit has to make of the functions up to a number, by the signatures of all ahead of them.
func judgedUnit(p api.Program, ahead []api.Fun, to int) []api.Fun {
	j := newJudge(p)
	for fn, f := range ahead {
		j.heads[fn] = &head{Fun: f}
	}
	j.work(len(ahead), to)
	return j.out[len(ahead):to]
}

func newJudge(p api.Program) *judge {
	return &judge{Program: p, heads: make([]*head, len(p.Funs)), out: make([]api.Fun, len(p.Funs))}
}

// work works on the functions from a number up to another one.
func (j *judge) work(begin, to int) {
	reach := j.reach()
	for done := begin; done < to; {
		for fn := begin; fn < to; fn++ {
			if j.heads[fn] != nil {
				continue
			}
			var group []int
			isReady := true
			for other := range j.Funs {
				if other == fn || reach[fn][other] && reach[other][fn] {
					group = append(group, other)
				} else {
					isReady = isReady && (!reach[fn][other] || j.heads[other] != nil)
				}
			}
			if isReady {
				j.group(group, reach[fn][fn])
				done += len(group)
			}
		}
	}
}

func each[T, U any](list []T, to func(T) U) []U {
	var out []U
	for _, x := range list {
		out = append(out, to(x))
	}
	return out
}

func withZero(t api.Type) api.Type {
	t.Args = each(t.Args, withZero)
	if t.Kind == api.TData || t.Kind == api.TArrow {
		t.Effect = api.Effect{Vars: []int{0}}
	}
	return t
}

// reach tells which functions a function calls, perhaps over others.
func (j *judge) reach() []map[int]bool {
	out := make([]map[int]bool, len(j.Funs))
	for i, f := range j.Funs {
		out[i] = map[int]bool{}
		eachStep(f.Body, nil, nil, func(s api.Step, _, _ path, _ int) {
			if s.Op == api.OCall {
				out[i][s.Code] = true
			}
		})
	}
	for range j.Funs {
		for i := range out {
			for k := range j.Funs {
				if out[i][k] {
					maps.Copy(out[i], out[k])
				}
			}
		}
	}
	return out
}

// eachStep visits steps in the order of the text.
func eachStep(b api.Block, block, lambda path, visit func(s api.Step, block, lambda path, index int)) {
	for i, s := range b.Steps {
		visit(s, block, lambda, i)
		for k, inner := range s.Blocks {
			own, around := append(slices.Clone(block), i, k), lambda
			if s.Op == api.OFn {
				around = own
			}
			eachStep(inner, own, around, visit)
		}
	}
}

func (j *judge) group(members []int, callsItself bool) {
	if !callsItself {
		a := j.attempt(members[0], nil)
		a.allSets()
		h := a.head()
		j.heads[members[0]] = h
		j.out[members[0]] = a.write(h)
		return
	}
	heads := map[int]*head{}
	for _, fn := range members {
		a := &attempt{judge: j, fn: fn, sameAs: map[int]int{}, alikeAs: map[int]int{}}
		a.dressHead()
		heads[fn] = a.plainHead()
	}
	heads, _ = j.rounds(heads, func(a *attempt) *head { return a.plainHead() })
	heads, last := j.rounds(heads, func(a *attempt) *head {
		a.allSets()
		return a.head()
	})
	for fn, h := range heads {
		j.heads[fn] = h
	}
	for fn, a := range last {
		j.out[fn] = a.write(heads[fn])
	}
}

// rounds works on a group until nothing changes.
func (j *judge) rounds(heads map[int]*head, work func(*attempt) *head) (map[int]*head, map[int]*attempt) {
	for {
		next, all, isSame := map[int]*head{}, map[int]*attempt{}, true
		for fn := range heads {
			all[fn] = j.attempt(fn, heads)
			next[fn] = work(all[fn])
			isSame = isSame && textOf(next[fn]) == textOf(heads[fn])
		}
		heads = next
		if isSame {
			return heads, all
		}
	}
}

func textOf(h *head) string {
	text := ""
	var one func(t api.Type)
	list := func(l []int) {
		for _, n := range l {
			text += strconv.Itoa(n) + ","
		}
		text += ";"
	}
	one = func(t api.Type) {
		list([]int{t.Kind, t.N, t.Region})
		list(t.Effect.Regions)
		list(t.Effect.Vars)
		for _, a := range t.Args {
			one(a)
		}
	}
	list([]int{h.Regions, h.Effects})
	list(h.Touch.Regions)
	list(h.Touch.Vars)
	for _, t := range append(slices.Clone(h.Params), h.Result) {
		one(t)
	}
	for _, r := range slices.Sorted(maps.Keys(h.origins)) {
		list([]int{r, h.origins[r].fun, h.origins[r].place})
	}
	return text
}

// attempt dresses a function and asks.
func (j *judge) attempt(fn int, heads map[int]*head) *attempt {
	a := &attempt{judge: j, fn: fn, heads: heads, sameAs: map[int]int{}, alikeAs: map[int]int{}, types: map[int]api.Type{}, foreign: map[from]int{}}
	a.dressHead()
	for i, t := range a.params {
		a.types[i] = t
	}
	eachStep(a.Funs[fn].Body, path{}, path{}, func(s api.Step, block, lambda path, index int) {
		w := &worn{Step: s, index: index, block: block, lambda: lambda, typ: a.dress(s.Type), types: each(s.Types, a.dress)}
		a.types[s.Out] = w.typ
		a.steps = append(a.steps, w)
		if s.Op == api.OCall && a.heads[s.Code] == nil {
			w.callee = a.judge.heads[s.Code]
			for range w.callee.Regions {
				w.regs = append(w.regs, a.region())
				a.places = append(a.places, w.regs[len(w.regs)-1])
			}
		}
	})
	for _, w := range a.steps {
		if w.Op == api.OCall && w.callee == nil {
			w.callee = a.heads[w.Code]
			for r := range w.callee.Regions {
				w.regs = append(w.regs, a.regionOf(w.callee, r))
			}
		}
		if w.Op == api.OCall {
			for range w.callee.Effects {
				w.effs = append(w.effs, a.effect())
			}
		}
		a.bind(w)
	}
	for _, w := range a.steps {
		a.ask(w)
	}
	a.same(a.types[a.Funs[fn].Body.Value], a.result)
	return a
}

func (a *attempt) dressHead() {
	a.params = each(a.Funs[a.fn].Params, a.dress)
	a.result = a.dress(a.Funs[a.fn].Result)
}

func (a *attempt) region() int {
	a.next++
	a.sameAs[a.next] = a.next
	return a.next
}

func (a *attempt) effect() int {
	a.next++
	a.alikeAs[a.next] = a.next
	return a.next
}

func lies(t api.Type) bool { return t.Kind >= api.TData }

func acts(t api.Type) bool { return t.Kind == api.TData || t.Kind == api.TArrow }

func (a *attempt) dress(t api.Type) api.Type {
	if lies(t) {
		t.Region = a.region()
		a.places = append(a.places, t.Region)
	}
	if acts(t) {
		t.Effect = api.Effect{Vars: []int{a.effect()}}
	}
	t.Args = each(t.Args, a.dress)
	return t
}

// regionOf is the region for one of a callee of the group.
func (a *attempt) regionOf(callee *head, r int) int {
	o, isHidden := callee.origins[r]
	switch {
	case !isHidden:
		return a.region()
	case o.fun == a.fn:
		return a.places[o.place]
	}
	if _, ok := a.foreign[o]; !ok {
		a.foreign[o] = a.region()
	}
	return a.foreign[o]
}

// bind gives types to what the blocks of a step bind.
func (a *attempt) bind(w *worn) {
	for k, b := range w.Blocks {
		for i, v := range b.Bind {
			switch {
			case w.Op == api.OFn:
				a.types[v] = w.typ.Args[0]
			case w.Op == api.OCase:
				of := a.types[w.Args[0]]
				a.types[v] = field(a.Datas[of.N].Cons[k].Fields[i], of)
			case k == 1:
				a.types[v] = a.types[w.Blocks[0].Value]
			default:
				a.types[v] = api.Type{}
			}
		}
	}
}

func field(t, of api.Type) api.Type {
	if t.Kind == api.TVar {
		return of.Args[t.N]
	}
	if lies(t) {
		t.Region = of.Region
	}
	if acts(t) {
		t.Effect = of.Effect
	}
	t.Args = each(t.Args, func(part api.Type) api.Type { return field(part, of) })
	return t
}

// effectsIn are the effects in some types, each part's own ahead of those of its Args.
func effectsIn(types ...api.Type) []api.Effect {
	var out []api.Effect
	for _, t := range types {
		if acts(t) {
			out = append(out, t.Effect)
		}
		out = append(out, effectsIn(t.Args...)...)
	}
	return out
}

func regionsIn(types ...api.Type) []int {
	var out []int
	for _, t := range types {
		if lies(t) {
			out = append(out, t.Region)
		}
		out = append(out, regionsIn(t.Args...)...)
	}
	return out
}

func isSameEffect(x, y api.Effect) bool {
	return slices.Equal(x.Regions, y.Regions) && slices.Equal(x.Vars, y.Vars)
}

// different are the different effects of a signature.
func (h *head) different() []api.Effect {
	var out []api.Effect
	for _, e := range effectsIn(append(slices.Clone(h.Params), h.Result)...) {
		if !slices.ContainsFunc(out, func(x api.Effect) bool { return isSameEffect(x, e) }) {
			out = append(out, e)
		}
	}
	return out
}

func (h *head) ownOf(e api.Effect) int {
	return slices.IndexFunc(h.different(), func(x api.Effect) bool { return isSameEffect(x, e) })
}

// standing is a type of a callee at a call.
func (w *worn) standing(t api.Type) api.Type {
	if t.Kind == api.TVar {
		return w.types[t.N]
	}
	if lies(t) {
		t.Region = w.regs[t.Region]
	}
	if acts(t) {
		t.Effect = api.Effect{Vars: []int{w.effs[w.callee.ownOf(t.Effect)]}}
	}
	t.Args = each(t.Args, w.standing)
	return t
}

func makeSame(what map[int]int, x, y int) {
	x, y = what[x], what[y]
	for name, of := range what {
		if of == max(x, y) {
			what[name] = min(x, y)
		}
	}
}

func (a *attempt) same(t, u api.Type) {
	if lies(t) {
		makeSame(a.sameAs, t.Region, u.Region)
	}
	if acts(t) {
		makeSame(a.alikeAs, t.Effect.Vars[0], u.Effect.Vars[0])
	}
	for i := range t.Args {
		a.same(t.Args[i], u.Args[i])
	}
}

func (a *attempt) ask(w *worn) {
	var t []api.Type
	for _, v := range w.Args {
		t = append(t, a.types[v])
	}
	switch w.Op {
	case api.OMake:
		for i, f := range a.Datas[w.typ.N].Cons[w.Code].Fields {
			a.same(t[i], field(f, w.typ))
		}
	case api.OTuple:
		for i := range t {
			a.same(t[i], w.typ.Args[i])
		}
	case api.OGet:
		a.same(w.typ, t[0].Args[w.Int])
	case api.OCall:
		for i, p := range w.callee.Params {
			a.same(t[i], w.standing(p))
		}
		a.same(w.typ, w.standing(w.callee.Result))
	case api.OFn:
		a.same(a.types[w.Blocks[0].Value], w.typ.Args[1])
	case api.OApply:
		a.same(t[0].Args[0], t[1])
		a.same(t[0].Args[1], w.typ)
	case api.ORef:
		a.same(w.typ.Args[0], t[0])
	case api.ODeref, api.OAt:
		a.same(t[0].Args[0], w.typ)
	case api.OSet:
		a.same(t[0].Args[0], t[1])
	case api.OArray:
		a.same(w.typ.Args[0], t[1])
	case api.OPut:
		a.same(t[0].Args[0], t[2])
	}
	for k, b := range w.Blocks {
		if w.Op == api.OIf || w.Op == api.OCase || w.Op == api.OHandle && k > 0 {
			a.same(a.types[b.Value], w.typ)
		}
	}
}
