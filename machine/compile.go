package machine

import (
	"slices"

	"heriot/api"
	"heriot/code"
	"heriot/outline"
	"heriot/steps"
)

// isCompilable tells whether a program is right, and consists of units that rise and call backward, of which the asked one is one.
func isCompilable(p *api.Program, unit int) bool {
	if e, _ := steps.Check(*p); e != api.OK {
		return false
	}
	last := 0
	for i := range p.Funs {
		f := &p.Funs[i]
		if f.Unit < last || len(f.Name) > api.MaxText || !callsBackward(p, f) {
			return false
		}
		last = f.Unit
	}
	return last < api.MaxUnits && unit >= 0 && unit <= last
}

// callsBackward tells whether a function calls no function of a later unit.
func callsBackward(p *api.Program, f *api.Fun) bool {
	for _, s := range outline.Steps(&f.Body) {
		if s.Op == api.OCall && p.Funs[s.Code].Unit > f.Unit {
			return false
		}
	}
	return true
}

// objectOf is the object of a unit.
func objectOf(p *api.Program, unit int) *code.Object {
	o := &code.Object{Unit: unit}
	for i := range p.Funs {
		f := &p.Funs[i]
		if f.Unit < unit {
			o.Ahead++
		}
		if f.Unit != unit {
			continue
		}
		o.Funs = append(o.Funs, functionOf(p, f))
		if i == p.Main {
			o.Main = len(o.Funs)
		}
	}
	for _, number := range code.Named(o.Funs) {
		o.Exns = append(o.Exns, code.Exception{Number: number, Name: p.Exns[number]})
	}
	return o
}

// hasNames tells whether the exceptions that an object names have numbers and names as objects may have them. Those of all programs have them.
func hasNames(exns []code.Exception) bool {
	return !slices.ContainsFunc(exns, func(e code.Exception) bool { return e.Number >= api.MaxNodes || len(e.Name) > api.MaxText })
}

// composer writes the codes of a function.
type composer struct {
	*api.Program
	handles map[*api.Step][]int // for each lambda the regions of which its closure captures handles
	numbers map[*api.Step]int   // for each lambda the number of its code
	codes   [][]code.Instruction
}

func functionOf(p *api.Program, f *api.Fun) code.Function {
	c := &composer{p, outline.Handles(p, f), map[*api.Step]int{}, nil}
	out := code.Function{Name: f.Name, Params: len(f.Params), Registers: len(f.Params), Regions: f.Regions, Touch: f.Touch.Regions}
	lambdas := []*api.Block{}
	for _, s := range outline.Steps(&f.Body) {
		out.Registers = max(out.Registers, 1+s.Out)
		for _, b := range s.Blocks {
			for _, v := range b.Bind {
				out.Registers = max(out.Registers, 1+v)
			}
		}
		switch s.Op {
		case api.ONew:
			out.Regions = max(out.Regions, 1+s.Region)
		case api.OFn:
			lambdas = append(lambdas, &s.Blocks[0])
			c.numbers[s] = len(lambdas)
		}
	}
	for _, b := range append([]*api.Block{&f.Body}, lambdas...) {
		out.Codes = append(out.Codes, c.codeOf(b))
	}
	return out
}

// codeOf is the code of a body, or of a lambda's block.
func (c *composer) codeOf(b *api.Block) []code.Instruction {
	w := &writer{composer: c}
	w.block(b)
	w.add(code.Instruction{Op: code.Return, A: b.Value})
	return w.list
}
