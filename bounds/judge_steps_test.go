package bounds_test

import (
	"fmt"
	"maps"
	"math/big"
	"slices"

	"heriot/api"
	"heriot/outline"
)

func isPart(t api.Type) bool { return t.Kind == api.TTuple || t.Kind == api.TData }

// zeroOr is the bound of a value of which only the type is known.
func zeroOr(t api.Type) sum {
	if isPart(t) || t.Kind == api.TInt || t.Kind == api.TArray {
		return nil
	}
	return sum{}
}

func (j *judge) block(at *moment, b api.Block, end bool) {
	for i, s := range b.Steps {
		choice := s.Op == api.OIf || s.Op == api.OCase || s.Op == api.OHandle
		last := end && i == len(b.Steps)-1 && s.Out == b.Value
		if s.Op < api.ONew {
			j.types[s.Out] = s.Type
		}
		switch {
		case choice:
			j.choice(at, s, last)
			if last {
				return
			}
		default:
			j.step(at, s)
		}
	}
	if end {
		j.end(at, b.Value)
	}
}

func (j *judge) end(at *moment, v int) {
	j.keeps(at)
	bounded, costs := at.vars[v].hasBound, at.costs(v)
	if j.rises == nil {
		must((bounded || !j.c.Known) && len(costs) >= len(j.c.Calls))
	} else {
		j.rises.endless = j.rises.endless || !bounded
		j.rises.costs = min(j.rises.costs, len(costs))
	}
	if j.c.Known && bounded {
		j.compare(at, at.bound(v), "Size")
	}
	for k := range min(len(costs), len(j.c.Calls)) {
		j.compare(at, costs[k], fmt.Sprint("Calls ", k))
	}
}

func (j *judge) step(at *moment, s api.Step) {
	arg := func(i int) known { return at.vars[s.Args[i]] }
	zero := big.NewInt(0)
	switch s.Op {
	case api.ONew:
		at.start("held", s.Region, nil)
		return
	case api.OEnd:
		at.drop(s.Region)
		return
	case api.OInt:
		at.set(s.Out, constant(max(s.Int, 0)), known{least: big.NewInt(s.Int), constant: big.NewInt(s.Int)})
	case api.OLess:
		at.set(s.Out, sum{}, known{tests: s.Args})
	case api.OMake, api.OTuple:
		j.cellOf(at, s)
	case api.OGet:
		if isPart(s.Type) {
			at.set(s.Out, at.bound(s.Args[0]), known{})
		} else {
			at.set(s.Out, zeroOr(s.Type), known{})
		}
	case api.ODeref, api.OAt:
		at.set(s.Out, zeroOr(s.Type), known{})
	case api.OArray:
		j.array(at, s)
	case api.OLen:
		bound := at.bound(s.Args[0])
		if !arg(0).hasBound {
			bound = constant(4096)
		}
		at.set(s.Out, bound, known{least: zero})
	case api.ORaise:
		at.set(s.Out, sum{}, known{least: zero}, slices.Repeat([]sum{{}}, levels(s.Type))...)
	case api.OApply:
		j.apply(at, s)
	case api.OCall:
		j.call(at, s)
	case api.OFn:
		j.fn(at, s)
	case api.ORef:
		j.cell(at, s.Region, constant(1))
		at.set(s.Out, sum{}, known{})
	case api.OAdd, api.OSub, api.OMul, api.ODiv, api.OMod:
		bound, least := j.arithmetic(at, s)
		at.set(s.Out, bound, known{least: least})
	default:
		at.set(s.Out, sum{}, known{})
	}
}

func (j *judge) cellOf(at *moment, s api.Step) {
	if len(s.Args) == 0 {
		at.set(s.Out, sum{}, known{})
		return
	}
	words := constant(int64(len(s.Args)))
	if s.Op == api.OMake {
		words = words.plus(constant(1))
	}
	j.cell(at, s.Region, words)
	for _, v := range s.Args {
		if isPart(j.types[v]) && !at.vars[v].hasBound {
			at.set(s.Out, nil, known{})
			return
		} else if isPart(j.types[v]) {
			words = words.plus(at.bound(v))
		}
	}
	at.set(s.Out, words, known{})
}

func (j *judge) array(at *moment, s api.Step) {
	n := at.vars[s.Args[0]]
	if n.constant != nil && (n.constant.Sign() < 0 || n.constant.Cmp(big.NewInt(4096)) > 0) {
		at.set(s.Out, sum{}, known{})
		return
	}
	bound := at.bound(s.Args[0])
	if !n.hasBound {
		bound = constant(4096)
	}
	j.cell(at, s.Region, bound.plus(constant(1)))
	at.set(s.Out, bound, known{})
}

func (j *judge) arithmetic(at *moment, s api.Step) (sum, *big.Int) {
	a, b := at.vars[s.Args[0]], at.vars[s.Args[1]]
	boundA, boundB := at.bound(s.Args[0]), at.bound(s.Args[1])
	natural := func(k known) bool { return k.least != nil && k.least.Sign() >= 0 }
	within := func(k known) bool {
		return k.constant != nil && k.constant.Sign() >= 0 && k.constant.Cmp(big.NewInt(1<<50)) <= 0
	}
	divides := b.constant != nil && b.constant.Sign() > 0
	var least *big.Int
	if divides && natural(a) {
		least = big.NewInt(0)
	}
	switch {
	case s.Op == api.OAdd && a.hasBound && b.hasBound && natural(a) && natural(b):
		return boundA.plus(boundB), nil
	case s.Op == api.OSub && within(b) && natural(a):
		if a.hasBound {
			boundA = boundA.less(b.constant.Int64())
		}
		return boundA, new(big.Int).Sub(a.least, b.constant)
	case s.Op == api.OMul && within(a) && natural(b) && b.hasBound:
		return boundB.scaled(a.constant), nil
	case s.Op == api.OMul && within(b) && natural(a) && a.hasBound:
		return boundA.scaled(b.constant), nil
	case s.Op == api.ODiv && divides:
		return boundA, least
	case s.Op == api.OMod && divides:
		return constant(b.constant.Int64() - 1), least
	}
	return nil, nil
}

func (a sum) scaled(n *big.Int) sum {
	out := sum{}
	for key, c := range a {
		out[key] = new(big.Int).Mul(c, n)
	}
	return out.clean()
}

// addAll adds to the regions, and behind the variables, of an effect, and says whether to more than held.
func (p moment) addAll(e api.Effect, s sum) bool {
	out := false
	for _, r := range e.Regions {
		if p.add("held", r, s) {
			out = true
		}
	}
	for _, v := range e.Vars {
		p.add("behind", v, s)
		out = true
	}
	return out
}

func (j *judge) apply(at *moment, s api.Step) {
	costs := at.costs(s.Args[0])
	must(len(costs) > 0)
	j.needs(at, at.now().plus(costs[0]))
	if at.addAll(j.types[s.Args[0]].Effect, costs[0]) {
		j.keeps(at)
	}
	at.set(s.Out, zeroOr(s.Type), known{}, costs[1:]...)
}

func (j *judge) call(at *moment, s api.Step) {
	g := j.Funs[s.Code]
	var taken []int
	for i, k := range g.Touch.Regions {
		if _, owned := at.sums[fmt.Sprint("held ", s.Regions[k])]; owned && s.Modes[i] == api.Last {
			taken = append(taken, k)
		}
	}
	c, ok := j.certs[certKey(s.Code, taken)]
	must(ok)
	stands := map[string]sum{}
	for i, t := range g.Params {
		if at.vars[s.Args[i]].hasBound {
			stands[fmt.Sprint("p", i)] = at.bound(s.Args[i])
		}
		for k, cost := range at.costs(s.Args[i]) {
			if k < levels(t) {
				stands[fmt.Sprint("c", i, ".", k)] = cost
			}
		}
	}
	behind := at.copy()
	for _, k := range taken {
		stands[fmt.Sprint("m", k)] = most(at.sums[fmt.Sprint("held ", s.Regions[k])])
		behind.drop(s.Regions[k])
	}
	value := func(list []api.Term) (sum, bool) {
		of, _ := sumOf(list, namesOf(j.Program, c))
		for name := range of.names() {
			if stands[name] == nil {
				return nil, false
			}
		}
		return of.put(func(name string) sum { return stands[name] }), true
	}
	needed := func(list []api.Term) sum {
		out, ok := value(list)
		must(ok && !out.isBeyond())
		return out
	}
	j.needs(at, behind.now().plus(needed(c.Peak)))
	behind.sums["lambda"] = at.sums["lambda"]
	*at = behind
	grown, others := false, 0
	for _, k := range g.Touch.Regions {
		if !slices.Contains(taken, k) {
			grown = at.add("held", s.Regions[k], needed(c.Growth[others])) || grown
			others++
		}
	}
	for k, v := range g.Touch.Vars {
		grown = at.addAll(s.Effects[v], needed(c.Behind[k])) || grown
	}
	if grown {
		j.keeps(at)
	}
	bound := zeroOr(s.Type)
	if size, ok := value(c.Size); ok && c.Known && g.Result.Kind != api.TVar && !standsForPart(g.Result, s.Types) {
		bound = size
		if size.isBeyond() {
			bound = zeroOr(s.Type)
		}
	}
	var costs []sum
	for _, list := range c.Calls {
		cost, ok := value(list)
		if !ok {
			break
		}
		must(!cost.isBeyond())
		costs = append(costs, cost)
	}
	at.set(s.Out, bound, known{}, costs...)
}

func standsForPart(t api.Type, types []api.Type) bool {
	switch t.Kind {
	case api.TVar:
		return isPart(types[t.N])
	case api.TTuple, api.TData:
		for _, a := range t.Args {
			if standsForPart(a, types) {
				return true
			}
		}
	}
	return false
}

func (j *judge) fn(at *moment, s api.Step) {
	j.cell(at, s.Region, constant(closureWords(j.Program, j.f, s)))
	inner := moment{maps.Clone(at.sums), maps.Clone(at.vars), nil}
	for name := range at.sums {
		var kind string
		var n int
		if count, _ := fmt.Sscanf(name, "%s %d", &kind, &n); count == 2 && (kind == "held" || kind == "grown" || kind == "behind") {
			delete(inner.sums, name)
			delete(inner.sums, "high "+name)
		}
	}
	for _, r := range s.Type.Effect.Regions {
		inner.start("grown", r, nil)
	}
	for _, v := range s.Type.Effect.Vars {
		inner.start("behind", v, nil)
	}
	inner.sums["lambda"] = sum{}
	b := s.Blocks[0]
	j.types[b.Bind[0]] = s.Type.Args[0]
	inner.set(b.Bind[0], zeroOr(s.Type.Args[0]), known{})
	at.set(s.Out, sum{}, known{}, j.costs(&inner, b)...)
}

// costs are those of a lambda: none if the walk can't go on.
func (j *judge) costs(at *moment, b api.Block) (out []sum) {
	around := j.lambda
	j.lambda = true
	defer func() {
		j.lambda = around
		if r := recover(); r != nil {
			_ = r.(refused)
			out = nil
		}
	}()
	j.block(at, b, false)
	return append([]sum{at.sums["lambda"]}, at.costs(b.Value)...)
}

// closureWords are 1, and one for each variable and each handle that a closure captures.
func closureWords(p api.Program, f api.Fun, s api.Step) int64 {
	names, inside := map[int]bool{}, map[int]bool{}
	regions, begun := map[int]bool{}, map[int]bool{}
	var look func(b api.Block)
	look = func(b api.Block) {
		names[b.Value] = true
		for _, v := range b.Bind {
			inside[v] = true
		}
		for _, s := range b.Steps {
			inside[s.Out] = true
			for _, v := range s.Args {
				names[v] = true
			}
			switch s.Op {
			case api.ONew:
				begun[s.Region] = true
			case api.OCall:
				for _, k := range p.Funs[s.Code].Touch.Regions {
					regions[s.Regions[k]] = true
				}
			default:
				if outline.Needs(&s) {
					regions[s.Region] = true
				}
			}
			for _, b := range s.Blocks {
				look(b)
			}
		}
	}
	look(s.Blocks[0])
	words := int64(1)
	for v := range names {
		if !inside[v] {
			words++
		}
	}
	for r := range regions {
		if !begun[r] {
			words++
		}
	}
	return words
}
