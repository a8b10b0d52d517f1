package bounds_test

import (
	"fmt"
	"maps"
	"math/big"
	"slices"

	"heriot/api"
	"heriot/steps"
)

// judge says what certificates are worth as the chapter does: everything that a walk knows is one bag of polynomials by names, which is copied at each block.
type judge struct {
	api.Program
	certs  map[string]api.Cert
	f      api.Fun
	c      api.Cert
	names  []string // of the certificate's variables
	types  map[int]api.Type
	fresh  int
	lambda bool
	rises  *rises // where certificates are looked for: what they would have to say
}

// refused is the panic by which a walk ends.
type refused struct{}

func must(ok bool) {
	if !ok {
		panic(refused{})
	}
}

// known is what is known of a variable.
type known struct {
	hasBound bool
	least    *big.Int
	constant *big.Int
	tests    []int // x and y of x < y
	costs    int   // how many costs are known
}

// moment is a place of a walk: all polynomials by names ("bound 3", "cost 3 0", "held 1", "high held 1", "grown 0", "high grown 0", "behind 0", "high behind 0", "Peak", "Growth 0", "Behind 0", "Size", "Calls 0", "lambda"), and what else is known of variables.
type moment struct {
	sums map[string]sum
	vars map[int]known
	puts []put
}

// put is how a path variable was put as a sum.
type put struct {
	u     string
	w     int64
	parts []string
}

func (p moment) copy() moment {
	return moment{maps.Clone(p.sums), maps.Clone(p.vars), slices.Clone(p.puts)}
}

func certKey(fun int, mine []int) string { return fmt.Sprint(fun, append([]int{}, mine...)) }

// judged is what Verify has to say, or VerifyUnit of a unit.
func judged(p api.Program, certs []api.Cert, unit *int) api.Errno {
	if e, _ := steps.Check(p); e != api.OK {
		return e
	}
	byKey := map[string]api.Cert{}
	for _, c := range certs {
		if _, twice := byKey[certKey(c.Fun, c.Mine)]; twice || !isShaped(p, c) {
			return api.ErrCert
		}
		byKey[certKey(c.Fun, c.Mine)] = c
	}
	if _, ok := byKey[certKey(p.Main, nil)]; unit == nil && !ok {
		return api.ErrCert
	}
	maps.DeleteFunc(byKey, func(_ string, c api.Cert) bool { return unit != nil && p.Funs[c.Fun].Unit > *unit })
	for _, c := range byKey {
		j := &judge{Program: p, certs: byKey, f: p.Funs[c.Fun], c: c, names: namesOf(p, c), types: map[int]api.Type{}}
		if (unit == nil || j.f.Unit == *unit) && !j.takes() {
			return api.ErrBound
		}
	}
	return api.OK
}

func levels(t api.Type) int {
	if t.Kind != api.TArrow {
		return 0
	}
	return 1 + levels(t.Args[1])
}

// namesOf are the names of a certificate's variables.
func namesOf(p api.Program, c api.Cert) []string {
	var out []string
	for i := range p.Funs[c.Fun].Params {
		out = append(out, fmt.Sprint("p", i))
	}
	for _, r := range c.Mine {
		out = append(out, fmt.Sprint("m", r))
	}
	for i, t := range p.Funs[c.Fun].Params {
		for k := range levels(t) {
			out = append(out, fmt.Sprint("c", i, ".", k))
		}
	}
	return out
}

func isShaped(p api.Program, c api.Cert) bool {
	if c.Fun < 0 || c.Fun >= len(p.Funs) {
		return false
	}
	f := p.Funs[c.Fun]
	last := -1
	for _, r := range c.Mine {
		if !slices.Contains(f.Touch.Regions, r) || r <= last {
			return false
		}
		last = r
	}
	if len(c.Growth)+len(c.Mine) != len(f.Touch.Regions) || len(c.Behind) != len(f.Touch.Vars) || len(c.Calls) > levels(f.Result) {
		return false
	}
	for _, list := range slices.Concat([][]api.Term{c.Peak, c.Size}, c.Growth, c.Behind, c.Calls) {
		if _, ok := sumOf(list, namesOf(p, c)); !ok {
			return false
		}
	}
	return c.Known || len(c.Size) == 0
}

func (j *judge) takes() (ok bool) {
	defer func() {
		if r := recover(); r != nil {
			_ = r.(refused)
			ok = false
		}
	}()
	at := moment{map[string]sum{}, map[int]known{}, nil}
	read := func(name string, list []api.Term) { at.sums[name], _ = sumOf(list, j.names) }
	read("Peak", j.c.Peak)
	read("Size", j.c.Size)
	for name, lists := range map[string][][]api.Term{"Growth": j.c.Growth, "Behind": j.c.Behind, "Calls": j.c.Calls} {
		for k, list := range lists {
			read(fmt.Sprint(name, " ", k), list)
		}
	}
	k := 0
	for _, r := range j.f.Touch.Regions {
		if slices.Contains(j.c.Mine, r) {
			at.start("held", r, variable(fmt.Sprint("m", r)))
			continue
		}
		at.start("grown", r, nil)
		at.sums[fmt.Sprint("Growth of ", r)] = at.sums[fmt.Sprint("Growth ", k)]
		k++
	}
	for k, v := range j.f.Touch.Vars {
		at.start("behind", v, nil)
		at.sums[fmt.Sprint("Behind of ", v)] = at.sums[fmt.Sprint("Behind ", k)]
	}
	for i, t := range j.f.Params {
		j.types[i] = t
		at.sums[fmt.Sprint("bound ", i)] = variable(fmt.Sprint("p", i))
		at.vars[i] = known{hasBound: true, costs: levels(t)}
		for k := range levels(t) {
			at.sums[fmt.Sprint("cost ", i, " ", k)] = variable(fmt.Sprint("c", i, ".", k))
		}
	}
	j.needs(&at, at.now())
	j.block(&at, j.f.Body, true)
	return true
}

// start begins to count what is in a region, or behind a variable.
func (p moment) start(kind string, n int, s sum) {
	p.sums[fmt.Sprint(kind, " ", n)], p.sums[fmt.Sprint("high ", kind, " ", n)] = s, s
}

func (p moment) now() sum {
	out := sum{}
	for name, s := range p.sums {
		var kind string
		var n int
		if count, _ := fmt.Sscanf(name, "%s %d", &kind, &n); count == 2 && (kind == "held" || kind == "grown" || kind == "behind") {
			out = out.plus(s)
		}
	}
	return out
}

// needs is asked wherever now, with something, is compared with the Peak.
func (j *judge) needs(at *moment, s sum) {
	must(!s.isBeyond())
	if j.lambda {
		at.sums["lambda"] = most(at.sums["lambda"], s)
		return
	}
	j.compare(at, s, "Peak")
}

// compare asks for what a polynomial is at most, or notes by how much it is not.
func (j *judge) compare(at *moment, s sum, claim string) {
	if j.rises == nil {
		must(s.isAtMost(at.sums[claim]))
	} else {
		j.rises.note(at, s, claim)
	}
}

// keeps is asked wherever grown or behind was added to.
func (j *judge) keeps(at *moment) {
	if j.lambda {
		return
	}
	for _, r := range j.f.Touch.Regions {
		if s, ok := at.sums[fmt.Sprint("grown ", r)]; ok {
			j.compare(at, s, fmt.Sprint("Growth of ", r))
		}
	}
	for _, v := range j.f.Touch.Vars {
		j.compare(at, at.sums[fmt.Sprint("behind ", v)], fmt.Sprint("Behind of ", v))
	}
}

// add adds to held, or else to grown, or to behind; and says whether not to held.
func (p moment) add(kind string, n int, s sum) bool {
	name := fmt.Sprint(kind, " ", n)
	if _, ok := p.sums[name]; kind == "held" && !ok {
		return p.add("grown", n, s)
	}
	p.sums[name] = p.sums[name].plus(s)
	must(!p.sums[name].isBeyond())
	p.sums["high "+name] = most(p.sums["high "+name], p.sums[name])
	return kind != "held"
}

func (p moment) drop(r int) {
	delete(p.sums, fmt.Sprint("held ", r))
	delete(p.sums, fmt.Sprint("high held ", r))
}

func (j *judge) cell(at *moment, region int, s sum) {
	grown := at.add("held", region, s)
	j.needs(at, at.now())
	if grown {
		j.keeps(at)
	}
}

// set says what is known of a variable; a bound that is nil, or beyond the bounds, is not known.
func (p moment) set(v int, bound sum, k known, costs ...sum) {
	k.hasBound = bound != nil && !bound.isBeyond()
	delete(p.sums, fmt.Sprint("bound ", v))
	if k.hasBound {
		p.sums[fmt.Sprint("bound ", v)] = bound
	}
	k.costs = len(costs)
	for i, s := range costs {
		p.sums[fmt.Sprint("cost ", v, " ", i)] = s
	}
	p.vars[v] = k
}

func (p moment) bound(v int) sum {
	if !p.vars[v].hasBound {
		return nil
	}
	return p.sums[fmt.Sprint("bound ", v)]
}

func (p moment) costs(v int) []sum {
	var out []sum
	for k := range p.vars[v].costs {
		out = append(out, p.sums[fmt.Sprint("cost ", v, " ", k)])
	}
	return out
}

// put puts a path variable as a sum everywhere.
func (j *judge) put(at *moment, u string, w int64, count int) []string {
	one := put{u: u, w: w}
	all := constant(w)
	for range count {
		j.fresh++
		name := fmt.Sprint("y", j.fresh)
		one.parts = append(one.parts, name)
		if j.rises != nil {
			j.rises.origins[name] = j.rises.origin(u)
		}
		all = all.plus(variable(name))
	}
	at.puts = append(at.puts, one)
	for name, s := range maps.Clone(at.sums) {
		if !s.names()[u] {
			continue
		}
		s = s.put(func(name string) sum {
			if name == u {
				return all
			}
			return variable(name)
		})
		at.sums[name] = s
		if !s.isBeyond() {
			continue
		}
		var v int
		count, _ := fmt.Sscanf(name, "bound %d", &v)
		must(count == 1)
		k := at.vars[v]
		k.hasBound = false
		at.vars[v] = k
		delete(at.sums, name)
	}
	return one.parts
}

// single is the one path variable that a bound is, if it is that.
func single(s sum) (string, bool) {
	for name := range s.names() {
		if len(s) == 1 && s[name] != nil && s[name].Cmp(big.NewInt(1)) == 0 {
			return name, true
		}
	}
	return "", false
}
