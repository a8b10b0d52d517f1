package bounds_test

import (
	"fmt"
	"maps"
	"math/big"
	"slices"
	"strings"

	"heriot/api"
)

// rise is by how much a certificate says too little somewhere, and what was put as a sum last on the way to there; v is empty if nothing was.
type rise struct {
	by *big.Int
	v  string
	w  int64
}

// rises are what a walk notes: by polynomial and Pows.
type rises struct {
	origins map[string]string
	found   map[[2]string]rise
	endless bool
	costs   int
}

// origin is the variable of the certificate from which a path variable came.
func (r *rises) origin(name string) string {
	if from, ok := r.origins[name]; ok {
		return from
	}
	return name
}

func (r *rises) note(at *moment, s sum, claim string) {
	var last put
	for _, p := range at.puts {
		if r.origin(p.u) == p.u {
			last = p
		}
	}
	for key, n := range s {
		by := new(big.Int).Set(n)
		if has := at.sums[claim][key]; has != nil {
			by.Sub(by, has)
		}
		if by.Sign() <= 0 {
			continue
		}
		names := strings.Fields(key)
		for i := range names {
			names[i] = r.origin(names[i])
		}
		where := [2]string{claim, sortedKey(names)}
		if old, ok := r.found[where]; !ok || old.by.Cmp(by) < 0 {
			r.found[where] = rise{by, last.u, last.w}
		}
	}
}

// task is a goal of the method.
type task struct {
	fun    int
	mine   []int
	sums   map[string]sum // what the certificate says so far
	known  bool
	calls  int
	raised map[[2]string]int
	to     []string // the keys of the goals of its calls
}

// method looks for certificates as the chapter's method does.
type method struct {
	api.Program
	tasks map[string]*task
	order []string // the goals as they are done
}

// methodical are the certificates that the chapter's method finds, if it finds some.
func methodical(p api.Program) ([]api.Cert, bool) {
	m := &method{Program: p, tasks: map[string]*task{}}
	m.visit(p.Main, nil)
	done := map[string]bool{}
	for i, key := range m.order {
		// A group is worked out when its last goal is.
		group := m.group(key)
		isLast := !slices.ContainsFunc(m.order[i+1:], func(later string) bool { return slices.Contains(group, later) })
		if !isLast || done[key] {
			continue
		}
		if !m.work(group) {
			return nil, false
		}
		for _, member := range group {
			done[member] = true
		}
	}
	var out []api.Cert
	for _, key := range m.order {
		out = append(out, m.cert(m.tasks[key]))
	}
	return out, true
}

// visit adds a goal, and the goals of its calls ahead of it.
func (m *method) visit(fun int, mine []int) string {
	key := certKey(fun, mine)
	if m.tasks[key] != nil {
		return key
	}
	f := m.Funs[fun]
	t := &task{fun: fun, mine: mine, sums: map[string]sum{}, known: true, calls: levels(f.Result), raised: map[[2]string]int{}}
	m.tasks[key] = t
	for _, s := range all(f.Body) {
		if s.Op != api.OCall {
			continue
		}
		var taken []int
		for i, k := range m.Funs[s.Code].Touch.Regions {
			if r := s.Regions[k]; s.Modes[i] == api.Last && (r >= f.Regions || slices.Contains(mine, r)) {
				taken = append(taken, k)
			}
		}
		t.to = append(t.to, m.visit(s.Code, taken))
	}
	m.order = append(m.order, key)
	return key
}

// group are the goals that a goal calls and that call it, perhaps over others, in their order; itself among them.
func (m *method) group(key string) []string {
	from := m.reached(key)
	var out []string
	for _, other := range m.order {
		if other == key || from[other] && m.reached(other)[key] {
			out = append(out, other)
		}
	}
	return out
}

func (m *method) reached(key string) map[string]bool {
	out := map[string]bool{}
	var look func(key string)
	look = func(key string) {
		for _, to := range m.tasks[key].to {
			if !out[to] {
				out[to] = true
				look(to)
			}
		}
	}
	look(key)
	return out
}

// cert is what a goal says so far.
func (m *method) cert(t *task) api.Cert {
	f := m.Funs[t.fun]
	c := api.Cert{Fun: t.fun, Mine: t.mine, Known: t.known}
	names := namesOf(m.Program, c)
	read := func(claim string) []api.Term {
		var out []api.Term
		for _, key := range slices.Sorted(maps.Keys(t.sums[claim])) {
			term := api.Term{Coef: t.sums[claim][key].Int64(), Pows: make([]int, len(names))}
			for _, name := range strings.Fields(key) {
				term.Pows[slices.Index(names, name)]++
			}
			out = append(out, term)
		}
		return out
	}
	c.Peak = read("Peak")
	for _, r := range f.Touch.Regions {
		if !slices.Contains(t.mine, r) {
			c.Growth = append(c.Growth, read(fmt.Sprint("Growth of ", r)))
		}
	}
	for _, v := range f.Touch.Vars {
		c.Behind = append(c.Behind, read(fmt.Sprint("Behind of ", v)))
	}
	if t.known {
		c.Size = read("Size")
	}
	for k := range t.calls {
		c.Calls = append(c.Calls, read(fmt.Sprint("Calls ", k)))
	}
	return c
}

// work works out a group in rounds.
func (m *method) work(group []string) bool {
	for range 40 {
		isDone := true
		for _, key := range group {
			t := m.tasks[key]
			changed, ok := m.round(t)
			if !ok {
				return false
			}
			isDone = isDone && !changed
		}
		if isDone {
			return true
		}
	}
	return false
}

// round walks through one goal, and raises what has to be raised.
func (m *method) round(t *task) (changed, ok bool) {
	certs := map[string]api.Cert{}
	for key, other := range m.tasks {
		certs[key] = m.cert(other)
	}
	c := certs[certKey(t.fun, t.mine)]
	r := &rises{origins: map[string]string{}, found: map[[2]string]rise{}, costs: t.calls}
	j := &judge{Program: m.Program, certs: certs, f: m.Funs[t.fun], c: c, names: namesOf(m.Program, c), types: map[int]api.Type{}, rises: r}
	if !j.takes() {
		return false, false
	}
	for where, by := range r.found {
		if !t.raise(where, by) {
			return false, false
		}
		changed = true
	}
	if t.known && r.endless {
		t.known, changed = false, true
	}
	if r.costs < t.calls {
		t.calls, changed = r.costs, true
	}
	return changed, true
}

func (t *task) raise(where [2]string, by rise) bool {
	claim, key := where[0], where[1]
	more := by.by
	if t.raised[where] >= 2 {
		if by.v == "" {
			return false
		}
		key = sortedKey(append(strings.Fields(key), by.v))
		more = new(big.Int).Add(more, big.NewInt(by.w-1))
		more.Div(more, big.NewInt(by.w))
	}
	t.raised[where]++
	t.sums[claim] = t.sums[claim].plus(sum{key: more})
	return len(strings.Fields(key)) <= 3 && t.sums[claim][key].Cmp(new(big.Int).Lsh(big.NewInt(1), 40)) <= 0
}
