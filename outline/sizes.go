package outline

import "heriot/api"

// Meter counts nodes, and sees whether they are too many or nested too deep. Behind a limit it enters nothing.
type Meter struct {
	left int
	big  bool
}

// NewMeter is a meter for so many nodes at most.
func NewMeter(most int) Meter { return Meter{left: most} }

// IsBig tells whether a limit has been passed.
func (m *Meter) IsBig() bool { return m.big }

// Enter counts what stands at a depth, and tells whether its parts have to be looked at.
func (m *Meter) Enter(nodes, depth int) bool {
	m.left -= nodes
	m.big = m.big || m.left < 0 || depth > api.MaxDepth
	return !m.big
}

func (m *Meter) oneType(t *api.Type, depth int) {
	if !m.Enter(1, depth) {
		return
	}
	for i := range t.Args {
		m.oneType(&t.Args[i], depth+1)
	}
}

func (m *Meter) types(list []api.Type) {
	for i := range list {
		m.oneType(&list[i], 1)
	}
}

func (m *Meter) function(f *api.Fun) {
	m.Enter(2, 1) // itself, and the block of its body
	m.types(f.Params)
	m.oneType(&f.Result, 1)
	for depth, s := range Steps(&f.Body) {
		m.Enter(1, depth)
		m.oneType(&s.Type, 1)
		m.types(s.Types)
		if len(s.Blocks) > 0 {
			m.Enter(len(s.Blocks), depth+1)
		}
		if m.big {
			return
		}
	}
}

// IsBig tells whether a program has too many nodes, or nests too deep.
func IsBig(p *api.Program) bool {
	m := NewMeter(api.MaxNodes)
	for _, d := range p.Datas {
		for _, c := range d.Cons {
			m.types(c.Fields)
		}
	}
	for i := range p.Funs {
		m.function(&p.Funs[i])
	}
	return m.big
}

// IsTooLarge tells whether a type that stands nowhere in the program is larger than a check has to look at.
func IsTooLarge(t *api.Type) bool {
	const most = 256
	m := NewMeter(most)
	m.oneType(t, 1)
	return m.big
}
