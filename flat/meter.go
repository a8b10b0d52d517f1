package flat

import (
	"iter"

	"heriot/api"
)

// meter counts nodes down, and sees whether they are too many or nested too deep. Behind a limit it enters nothing.
type meter struct {
	left int
	big  bool
}

// enter counts what stands at a depth, and tells whether its parts have to be looked at.
func (m *meter) enter(nodes, depth int) bool {
	m.left -= nodes
	m.big = m.big || m.left < 0 || depth > api.MaxDepth
	return !m.big
}

func (m *meter) oneType(t *api.Type, depth int) {
	if !m.enter(1, depth) {
		return
	}
	for i := range t.Args {
		m.oneType(&t.Args[i], depth+1)
	}
}

func (m *meter) types(list []api.Type) {
	for i := range list {
		m.oneType(&list[i], 1)
	}
}

func (m *meter) function(f *api.Fun) {
	m.enter(2, 1) // itself, and the block of its body
	m.types(f.Params)
	m.oneType(&f.Result, 1)
	for depth, s := range stepsOf(&f.Body) {
		m.enter(1, depth)
		m.oneType(&s.Type, 1)
		m.types(s.Types)
		if len(s.Blocks) > 0 {
			m.enter(len(s.Blocks), depth+1)
		}
		if m.big {
			return
		}
	}
}

// isBig tells whether a program has too many nodes, or nests too deep.
func isBig(p *api.Program) bool {
	m := meter{left: api.MaxNodes}
	for _, d := range p.Datas {
		for _, c := range d.Cons {
			m.types(c.Fields)
		}
	}
	for i := range p.Funs {
		m.function(&p.Funs[i])
	}
	return m.big
}

// isTooLarge tells whether a type that stands nowhere in the program is larger than a check has to look at.
func isTooLarge(t *api.Type) bool {
	const most = 256
	m := meter{left: most}
	m.oneType(t, 1)
	return m.big
}

// stepsOf goes through the steps of a block at all depths, each one ahead of those in its blocks; with a step comes the depth of its block, 1 for the outermost.
func stepsOf(b *api.Block) iter.Seq2[int, *api.Step] {
	return func(yield func(int, *api.Step) bool) { eachStep(b, 1, yield) }
}

// eachStep tells whether it has gone through all steps.
func eachStep(b *api.Block, depth int, yield func(int, *api.Step) bool) bool {
	for i := range b.Steps {
		s := &b.Steps[i]
		if !yield(depth, s) {
			return false
		}
		for j := range s.Blocks {
			if !eachStep(&s.Blocks[j], depth+1, yield) {
				return false
			}
		}
	}
	return true
}
