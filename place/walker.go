package place

import (
	"slices"

	"heriot/api"
	"heriot/outline"
	"heriot/stack"
)

// walker walks through a function of a region program that Check takes.
type walker struct {
	*api.Program
	fun      *api.Fun
	captured map[*api.Step][]int // of which regions the closures capture handles that an OFn makes
	types    map[int]*api.Type   // of variables
	late     map[int]late        // variables whose types are found where they are asked for
}

// late says of which variable's type the type of another one is: a field of a constructor, or just that type.
type late struct {
	of         int
	isField    bool
	con, field int
}

func newWalker(p *api.Program, fun int) *walker {
	f := &p.Funs[fun]
	w := &walker{Program: p, fun: f, captured: outline.Handles(p, f), types: map[int]*api.Type{}, late: map[int]late{}}
	for i := range f.Params {
		w.types[i] = &f.Params[i]
	}
	for _, s := range outline.Steps(&f.Body) {
		w.types[s.Out] = &s.Type
		for i, b := range s.Blocks {
			w.learn(s, i, b.Bind)
		}
	}
	return w
}

// learn gets to know of which types the variables are that a block of a step binds. What an exception carries is never read.
func (w *walker) learn(s *api.Step, which int, binds []int) {
	for i, v := range binds {
		switch {
		case s.Op == api.OFn:
			w.types[v] = &s.Type.Args[0]
		case s.Op == api.OCase:
			w.late[v] = late{s.Args[0], true, which, i}
		case which == 1:
			w.late[v] = late{of: s.Blocks[0].Value}
		}
	}
}

func (w *walker) typeOf(v int) *api.Type {
	if t, ok := w.types[v]; ok {
		return t
	}
	l := w.late[v]
	t := w.typeOf(l.of)
	if l.isField {
		field := outline.At(t).Written(&w.Datas[t.N].Cons[l.con].Fields[l.field])
		t = &field
	}
	w.types[v] = t
	return t
}

// touches tells whether a step touches a region in itself.
func (w *walker) touches(s *api.Step, region int) bool {
	var of *api.Type
	if outline.Reads(s.Op) {
		of = w.typeOf(s.Args[0])
	}
	return slices.Contains(outline.Touched(w.Program, s, of, w.captured[s]).Regions, region)
}

// touchesIn tells whether a step of a block touches a region, in itself or inside.
func (w *walker) touchesIn(b *api.Block, region int) bool {
	for i := range b.Steps {
		s := &b.Steps[i]
		if _, isInside := w.inside(s, 0, region); isInside || w.touches(s, region) {
			return true
		}
	}
	return false
}

// inside is the first block of a step, from a number on, in which a step touches a region.
func (w *walker) inside(s *api.Step, from, region int) (int, bool) {
	if s.Op == api.OFn {
		return 0, false
	}
	for k := from; k < len(s.Blocks); k++ {
		if w.touchesIn(&s.Blocks[k], region) {
			return k, true
		}
	}
	return 0, false
}

// level is a block in which a walker is: the step that has it, by its number, and its own number there.
type level struct {
	*api.Block
	of          *api.Step // nil for the function's body
	step, which int
}

// position is where a walker is in a function.
type position struct {
	levels stack.Of[level]
	next   int // the step that is next in the innermost block
	live   set // at this place
}

// path is the path of the innermost block.
func (at *position) path() []int {
	var out []int
	for _, l := range at.levels[1:] {
		out = append(out, l.step, l.which)
	}
	return out
}

// enter goes into a block of a step of the innermost block.
func (at *position) enter(step, which int) {
	s := &at.levels.Top().Steps[step]
	at.levels.Push(level{&s.Blocks[which], s, step, which})
	at.next = 0
}

// find goes to a place, and tells whether it is one.
func (w *walker) find(path []int) (*position, bool) {
	at := &position{live: setOf(w.fun.Touch.Regions...)}
	at.levels.Push(level{Block: &w.fun.Body})
	for ; len(path) > 0; path = path[1:] {
		steps := at.levels.Top().Steps
		i := path[0]
		if i < 0 || i >= len(steps) {
			return nil, false
		}
		w.pass(at, i)
		if len(path) == 1 {
			w.pass(at, i+1)
			break
		}
		path = path[1:]
		if path[0] < 0 || path[0] >= len(steps[i].Blocks) {
			return nil, false
		}
		at.live = w.liveIn(&steps[i], path[0], at.live)
		at.enter(i, path[0])
	}
	b := at.levels.Top()
	if at.next > 0 && b.Steps[at.next-1].Op == api.OEnd {
		return nil, false
	}
	for at.next < len(b.Steps) && b.Steps[at.next].Op == api.OEnd {
		w.pass(at, at.next+1)
	}
	return at, true
}

// pass goes on in a block, up to a step.
func (w *walker) pass(at *position, to int) {
	b := at.levels.Top()
	for ; at.next < to; at.next++ {
		at.live = w.liveBehind(&b.Steps[at.next], at.live)
	}
}

// liveIn is what is live at the begin of a block of a step ahead of which some regions are.
func (w *walker) liveIn(s *api.Step, which int, live set) set {
	switch {
	case s.Op == api.OFn:
		return nil
	case s.Op == api.OHandle && which > 0:
		return setOf(s.Keep...)
	}
	return live.without(nil)
}

// liveBehind is what is live behind a step.
func (w *walker) liveBehind(s *api.Step, live set) set {
	live = live.without(nil)
	switch s.Op {
	case api.ONew:
		live.add(s.Region)
	case api.OEnd:
		live.drop(s.Region)
	case api.OCall:
		for k, r := range w.Funs[s.Code].Touch.Regions {
			if s.Modes[k] == api.Last {
				live.drop(s.Regions[r])
			}
		}
	case api.OIf, api.OCase:
		return w.liveAtEnd(s, 0, live)
	case api.OHandle:
		return w.liveAtEnd(s, 1, live)
	}
	return live
}

// liveAtEnd is what is live at the end of a block of a step: the same for all blocks that are run to their ends.
func (w *walker) liveAtEnd(s *api.Step, which int, live set) set {
	live = w.liveIn(s, which, live)
	for i := range s.Blocks[which].Steps {
		live = w.liveBehind(&s.Blocks[which].Steps[i], live)
	}
	return live
}
