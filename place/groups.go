package place

import (
	"slices"

	"heriot/api"
	"heriot/groups"
	"heriot/outline"
	"heriot/stack"
)

// placer places a program.
type placer struct {
	*api.Program
	fields  [][][]*dressed // the patterns of the fields of constructors
	done    map[int]*signature
	working map[int]*function // the functions of the group that is worked on, if one of them calls another one or itself
}

// group are functions that are worked on together.
type group struct {
	*placer
	functions []*function
	merges    stack.Of[merge]
	facts     []fact
}

func newPlacer(p *api.Program) *placer {
	out := &placer{Program: p, done: map[int]*signature{}}
	for _, d := range p.Datas {
		var cons [][]*dressed
		for _, c := range d.Cons {
			var fields []*dressed
			for i := range c.Fields {
				fields = append(fields, field(&c.Fields[i]))
			}
			cons = append(cons, fields)
		}
		out.fields = append(out.fields, cons)
	}
	return out
}

// groupsOf are the groups of some functions, by their numbers, which rise. What others they call has a signature already, so that no group has it.
func groupsOf(p *api.Program, numbers []int) [][]int {
	isOther := func(n int) bool {
		_, ok := slices.BinarySearch(numbers, n)
		return !ok
	}
	out := groups.Of(numbers, func(n int) []int { return slices.DeleteFunc(outline.Callees(&p.Funs[n]), isOther) })
	for _, members := range out {
		slices.Sort(members)
	}
	return out
}

// placeAll gives some functions their regions, and gives them by their numbers, which rise. All others that they call are done.
func (p *placer) placeAll(numbers []int) []api.Fun {
	for _, members := range groupsOf(p.Program, numbers) {
		p.placeGroup(members)
	}
	var out []api.Fun
	for _, n := range numbers {
		out = append(out, *p.done[n].Fun)
	}
	return out
}

// placeGroup works on a group whose callees are done.
func (p *placer) placeGroup(members []int) {
	g := &group{placer: p}
	p.working = map[int]*function{}
	for _, n := range members {
		f := &function{group: g, number: n, flat: &p.Funs[n], types: map[int]*dressed{}, late: map[int]bound{}}
		g.functions = append(g.functions, f)
		if len(members) > 1 || slices.Contains(outline.Callees(f.flat), n) {
			p.working[n] = f
		}
	}
	g.all((*function).lay)
	g.all(func(f *function) { f.each(f.link) })
	g.all(func(f *function) {
		f.each(f.ask)
		f.same(f.value(f.body), f.result)
	})
	g.spread()
	g.all((*function).compact)
	g.all((*function).begin)
	g.all(func(f *function) { f.each(f.observe) })
	g.settle()
	g.all((*function).writeHead)
	g.all((*function).writeBody)
	for _, f := range g.functions {
		p.done[f.number] = f.sign
	}
}

func (g *group) all(do func(*function)) {
	for _, f := range g.functions {
		do(f)
	}
}
