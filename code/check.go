package code

import (
	"slices"

	"heriot/api"
	"heriot/outline"
)

// longest is how many instructions a code has at most.
const longest = 16 * api.MaxNodes

func (o *Object) isRight() bool {
	if o.Unit >= api.MaxUnits || o.Main > len(o.Funs) || !areFunctions(o.Funs) || !areNamed(o.Exns, o.Funs) {
		return false
	}
	for in := range Instructions(o.Funs) {
		if in.Op == Call && in.N >= o.Ahead && !in.Calls(o.Funs, in.N-o.Ahead) {
			return false
		}
	}
	return true
}

func (m *Image) isRight() bool {
	if len(m.Funs) == 0 || m.Main >= len(m.Funs) || !areFunctions(m.Funs) || !areNamed(m.Exns, m.Funs) {
		return false
	}
	for in := range Instructions(m.Funs) {
		if in.Op == Call && !in.Calls(m.Funs, in.N) {
			return false
		}
	}
	return m.Funs[m.Main].CanBeMain()
}

// Calls tells whether an instruction has just the registers and the handles that one of some functions asks for.
func (in *Instruction) Calls(funs []Function, number int) bool {
	if number >= len(funs) {
		return false
	}
	return len(in.Registers) == funs[number].Params && len(in.Pairs) == len(funs[number].Touch)
}

// CanBeMain tells whether a program can begin with a function.
func (f *Function) CanBeMain() bool { return f.Params <= api.MaxArgs && len(f.Touch) == 0 }

// areNamed tells whether exceptions are just those that the program declares and that functions name, rising.
func areNamed(exns []Exception, funs []Function) bool {
	named := Named(funs)
	return slices.EqualFunc(exns, named, func(e Exception, number int) bool { return e.Number == number && number < api.MaxNodes })
}

// Named are the numbers, rising, of the exceptions that functions name and that the program declares.
func Named(funs []Function) []int {
	found := map[int]bool{}
	for in := range Instructions(funs) {
		switch in.Op {
		case Raise:
			found[in.N] = true
		case Try:
			for _, arm := range in.Arms {
				found[arm.Exn] = true
			}
		}
	}
	for own := range outline.Size + 1 {
		delete(found, own)
	}
	return outline.Sorted(found)
}

func areFunctions(funs []Function) bool {
	if len(funs) > api.MaxNodes {
		return false
	}
	for i := range funs {
		if !funs[i].isRight() {
			return false
		}
	}
	return true
}

func (f *Function) isRight() bool {
	if max(f.Registers, f.Regions) > api.MaxNodes || f.Params > f.Registers || !outline.IsRising(f.Touch, f.Regions) {
		return false
	}
	if len(f.Codes) == 0 || len(f.Codes) > api.MaxNodes {
		return false
	}
	for _, list := range f.Codes {
		if !f.isCode(list) {
			return false
		}
	}
	return true
}

func (f *Function) isCode(list []Instruction) bool {
	if len(list) == 0 || len(list) > longest {
		return false
	}
	for number := range list {
		at := place{f, number, len(list)}
		if !at.isInstruction(&list[number]) {
			return false
		}
	}
	last := list[len(list)-1].Op
	return last == Return || last == Raise
}

// place is where an instruction stands: its number in a code of a function, which has so many.
type place struct {
	*Function
	number int
	count  int
}

func (p place) isInstruction(in *Instruction) bool {
	for _, operand := range layouts[in.Op] {
		if !p.isOperand(in, operand) {
			return false
		}
	}
	switch in.Op {
	case Close:
		return len(in.Lists.Registers) > 0
	case Try:
		return outline.IsRising(in.Lists.Regions, p.Regions) && areApart(in.Arms)
	}
	return true
}

// isOperand looks at an operand as far as the function alone tells whether it is right.
func (p place) isOperand(in *Instruction, operand rune) bool {
	switch operand {
	case 'R':
		return in.R < p.Registers
	case 'A':
		return in.A < p.Registers
	case 'B':
		return in.B < p.Registers
	case 'C':
		return in.C < p.Registers
	case 'H':
		return in.H < p.Regions
	case 'K':
		return in.N > 0 && in.N < len(p.Codes)
	case 'T':
		return p.isBehind(in.To)
	case 'r':
		return areBelow(in.Lists.Registers, p.Registers)
	case 'h':
		return areBelow(in.Lists.Regions, p.Regions)
	case 'p':
		return !slices.ContainsFunc(in.Pairs, func(one Pair) bool { return one.Region >= p.Regions || one.Mode > api.Last })
	case 'x':
		return !slices.ContainsFunc(in.Arms, func(one Arm) bool { return one.Register >= p.Registers || !p.isBehind(one.To) })
	case 'c':
		return !slices.ContainsFunc(in.Cases, func(one Case) bool { return !areBelow(one.Registers, p.Registers) || !p.isBehind(one.To) })
	}
	return true
}

// isBehind tells whether an instruction stands behind the one at a place, so that no code goes round.
func (p place) isBehind(number int) bool { return number > p.number && number < p.count }

func areBelow(list []int, bound int) bool {
	return !slices.ContainsFunc(list, func(n int) bool { return n >= bound })
}

// areApart tells whether no exception has two arms.
func areApart(arms []Arm) bool {
	ahead := map[int]bool{}
	for _, arm := range arms {
		if ahead[arm.Exn] {
			return false
		}
		ahead[arm.Exn] = true
	}
	return true
}
