package types

import (
	"iter"

	"heriot/api"
)

// Kinds of types that there are only while the types of a declaration are found.
const (
	tUnknown = api.TArray + 1 + iota
	tRigid
)

const maxTypeNodes = 256 // of a type that is not too large

// node is a type while types are found. Types that have come to be the same are shared, since their trees may grow exponentially before one of them is looked at.
type node struct {
	id   int // its own number
	kind int
	n    int // the number of the data type
	args []*node
	walk int // the number of the last walk that has been here
}

// solver finds what the unknown types of one declaration are.
type solver struct {
	// known has, by the number of an unknown type, what it is by now. A known type with parts that was asked to be another one is that one from then on, so that no two types are asked twice.
	known  map[int]*node
	leaves map[leaf]*node
	nodes  int
	walks  int
}

// leaf is a known type without parts. There is one node for each, since they are most of the nodes of large types.
type leaf struct{ kind, n int }

func newSolver() solver { return solver{known: map[int]*node{}, leaves: map[leaf]*node{}} }

func (s *solver) node(kind, n int, args ...*node) *node {
	s.nodes++
	return &node{id: s.nodes, kind: kind, n: n, args: args}
}

func (s *solver) leaf(kind, n int) *node {
	key := leaf{kind, n}
	if s.leaves[key] == nil {
		s.leaves[key] = s.node(kind, n)
	}
	return s.leaves[key]
}

func (s *solver) integer() *node { return s.leaf(api.TInt, 0) }

func (s *solver) fresh() *node { return s.node(tUnknown, 0) }

// several are so many new types of a kind.
func (s *solver) several(kind, count int) []*node {
	var out []*node
	for range count {
		out = append(out, s.node(kind, 0))
	}
	return out
}

// instance is a type in which some types are put in for its variables.
func (s *solver) instance(t api.Type, put []*node) *node {
	if t.Kind == api.TVar {
		return put[t.N]
	}
	if len(t.Args) == 0 {
		return s.leaf(t.Kind, t.N)
	}
	return s.node(t.Kind, t.N, s.instances(t.Args, put)...)
}

func (s *solver) instances(list []api.Type, put []*node) []*node {
	var out []*node
	for _, t := range list {
		out = append(out, s.instance(t, put))
	}
	return out
}

// now is what a type is by now: itself, if it is still unknown.
func (s *solver) now(t *node) *node {
	next, ok := s.known[t.id]
	if !ok {
		return t
	}
	end := s.now(next)
	s.known[t.id] = end
	return end
}

// ask makes two types the same.
func (s *solver) ask(a, b *node) api.Errno {
	a, b = s.now(a), s.now(b)
	switch {
	case a == b:
		return api.OK
	case a.kind == tUnknown:
		return s.become(a, b)
	case b.kind == tUnknown:
		return s.become(b, a)
	case a.kind == tRigid || b.kind == tRigid:
		return api.ErrNote
	case a.kind != b.kind || a.n != b.n || len(a.args) != len(b.args):
		return api.ErrMismatch
	}
	for i := range a.args {
		if e := s.ask(a.args[i], b.args[i]); e != api.OK {
			return e
		}
	}
	if len(a.args) > 0 {
		s.known[a.id] = b
	}
	return api.OK
}

// become makes an unknown type known.
func (s *solver) become(unknown, t *node) api.Errno {
	for p := range s.parts(t) {
		if p == unknown {
			return api.ErrEndless
		}
	}
	s.known[unknown.id] = t
	return api.OK
}

// parts are the types that stand in some types by now, these included, each once: an outer one ahead of its parts, from left to right.
func (s *solver) parts(types ...*node) iter.Seq[*node] {
	return func(yield func(*node) bool) {
		s.walks++
		s.walk(types, s.walks, yield)
	}
}

// walk tells whether the walk goes on behind some types.
func (s *solver) walk(types []*node, number int, yield func(*node) bool) bool {
	for _, t := range types {
		t = s.now(t)
		if t.walk == number {
			continue
		}
		t.walk = number
		if !yield(t) || !s.walk(t.args, number, yield) {
			return false
		}
	}
	return true
}

// isTooLarge counts each part as often as it stands there, up to the limit.
func (s *solver) isTooLarge(t *node) bool {
	left := maxTypeNodes
	return !s.fits(t, 1, &left)
}

func (s *solver) fits(t *node, depth int, left *int) bool {
	*left--
	if *left < 0 || depth > api.MaxDepth {
		return false
	}
	for _, a := range s.now(t).args {
		if !s.fits(a, depth+1, left) {
			return false
		}
	}
	return true
}

// areTooLarge tells whether one of some types is too large.
func (s *solver) areTooLarge(types []*node) bool {
	for _, t := range types {
		if s.isTooLarge(t) {
			return true
		}
	}
	return false
}

// numbers says by the numbers of the unknown and rigid types which type variables of a function they are.
type numbers map[int]int

func numberOf(vars []*node) numbers {
	out := numbers{}
	for i, v := range vars {
		out[v.id] = i
	}
	return out
}

// write gives a type as it stands in a function with such variables. What is unknown and none of them could be any type, and is unit.
func (s *solver) write(t *node, vars numbers) api.Type {
	t = s.now(t)
	if t.kind != tUnknown && t.kind != tRigid {
		return api.Type{Kind: t.kind, N: t.n, Args: s.writeAll(t.args, vars)}
	}
	if n, ok := vars[t.id]; ok {
		return variable(n)
	}
	return basic(api.TUnit)
}

func (s *solver) writeAll(list []*node, vars numbers) []api.Type {
	var out []api.Type
	for _, t := range list {
		out = append(out, s.write(t, vars))
	}
	return out
}
