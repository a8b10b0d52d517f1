package machine

import (
	"heriot/api"
	"heriot/code"
)

// writer writes one code.
type writer struct {
	*composer
	list []code.Instruction
}

// add adds an instruction, and gives its number.
func (w *writer) add(in code.Instruction) int {
	w.list = append(w.list, in)
	return len(w.list) - 1
}

// block adds the steps of a block.
func (w *writer) block(b *api.Block) {
	for i := range b.Steps {
		w.step(&b.Steps[i])
	}
}

// part adds a block whose value a variable gets.
func (w *writer) part(b *api.Block, out int) {
	w.block(b)
	w.add(code.Instruction{Op: code.Move, R: out, A: b.Value})
}

func (w *writer) step(s *api.Step) {
	switch s.Op {
	case api.OIf:
		w.choice(s)
	case api.OCase:
		w.cases(s)
	case api.OHandle:
		w.handle(s)
	default:
		w.add(w.instruction(s))
	}
	switch s.Op {
	case api.OSet, api.OPut, api.OPrint:
		// They give unit, which their instructions do not.
		w.add(code.Instruction{Op: code.Load, R: s.Out})
	}
}

// leave adds a jump to the end of a step, which is not known yet.
func (w *writer) leave(jumps []int) []int {
	return append(jumps, w.add(code.Instruction{Op: code.Jump}))
}

// end lets jumps go to what comes next.
func (w *writer) end(jumps []int) {
	for _, number := range jumps {
		w.list[number].To = len(w.list)
	}
}

func (w *writer) choice(s *api.Step) {
	branch := w.add(code.Instruction{Op: code.Branch, A: s.Args[0]})
	w.part(&s.Blocks[0], s.Out)
	jumps := w.leave(nil)
	w.list[branch].To = len(w.list)
	w.part(&s.Blocks[1], s.Out)
	w.end(jumps)
}

func (w *writer) cases(s *api.Step) {
	own := &code.Lists{}
	w.add(code.Instruction{Op: code.Switch, A: s.Args[0], Lists: own})
	var jumps []int
	for i := range s.Blocks {
		if i > 0 {
			jumps = w.leave(jumps)
		}
		own.Cases = append(own.Cases, code.Case{To: len(w.list), Registers: s.Blocks[i].Bind})
		w.part(&s.Blocks[i], s.Out)
	}
	w.end(jumps)
}

func (w *writer) handle(s *api.Step) {
	own := &code.Lists{Regions: s.Keep}
	w.add(code.Instruction{Op: code.Try, Lists: own})
	body, behind := &s.Blocks[0], &s.Blocks[1]
	w.block(body)
	w.add(code.Instruction{Op: code.Untry})
	w.add(code.Instruction{Op: code.Move, R: behind.Bind[0], A: body.Value})
	w.part(behind, s.Out)
	var jumps []int
	for i := range s.Blocks[2:] {
		arm := &s.Blocks[2+i]
		jumps = w.leave(jumps)
		own.Arms = append(own.Arms, code.Arm{Exn: arm.Code, Register: arm.Bind[0], To: len(w.list)})
		w.part(arm, s.Out)
	}
	w.end(jumps)
}

// instruction is that of a step without blocks, or of a lambda.
func (w *writer) instruction(s *api.Step) code.Instruction {
	out, region := s.Out, s.Region
	a, b, c := threeOf(s.Args)
	switch s.Op {
	case api.OInt, api.OBool:
		return code.Instruction{Op: code.Load, R: out, Int: s.Int}
	case api.OUnit:
		return code.Instruction{Op: code.Load, R: out}
	case api.OMake:
		return constructed(s)
	case api.OTuple, api.ORef:
		return code.Instruction{Op: code.Cell, R: out, H: region, Lists: &code.Lists{Registers: s.Args}}
	case api.OGet, api.ODeref:
		return code.Instruction{Op: code.Field, R: out, A: a, N: int(s.Int)}
	case api.OCall:
		return w.call(s)
	case api.OFn:
		return w.closure(s)
	case api.OApply:
		return code.Instruction{Op: code.Apply, R: out, A: a, B: b}
	case api.OSet:
		return code.Instruction{Op: code.Write, A: a, B: b}
	case api.OArray:
		return code.Instruction{Op: code.Array, R: out, H: region, A: a, B: b}
	case api.OAt:
		return code.Instruction{Op: code.At, R: out, A: a, B: b}
	case api.OPut:
		return code.Instruction{Op: code.Put, A: a, B: b, C: c}
	case api.OLen:
		return code.Instruction{Op: code.Len, R: out, A: a}
	case api.ORaise:
		return code.Instruction{Op: code.Raise, N: s.Code, A: a}
	case api.OPrint:
		return code.Instruction{Op: code.Print, A: a}
	case api.ONew:
		return code.Instruction{Op: code.New, H: region}
	case api.OEnd:
		return code.Instruction{Op: code.End, H: region}
	}
	// The operations on two ints have ops in the same order.
	return code.Instruction{Op: code.Add + s.Op - api.OAdd, R: out, A: a, B: b}
}

// threeOf gives the first arguments of a step, 0 where it has no more.
func threeOf(args []int) (a, b, c int) {
	var first [3]int
	copy(first[:], args)
	return first[0], first[1], first[2]
}

// constructed is the instruction of a constructor.
func constructed(s *api.Step) code.Instruction {
	if len(s.Args) == 0 {
		return code.Instruction{Op: code.Load, R: s.Out, Int: int64(s.Code)}
	}
	return code.Instruction{Op: code.Make, R: s.Out, H: s.Region, N: s.Code, Lists: &code.Lists{Registers: s.Args}}
}

func (w *writer) call(s *api.Step) code.Instruction {
	own := &code.Lists{Registers: s.Args}
	for i, formal := range w.Funs[s.Code].Touch.Regions {
		own.Pairs = append(own.Pairs, code.Pair{Region: s.Regions[formal], Mode: s.Modes[i]})
	}
	return code.Instruction{Op: code.Call, R: s.Out, N: s.Code, Lists: own}
}

// closure is the instruction of a lambda. Behind the variables that its closure captures stands the one that its block binds.
func (w *writer) closure(s *api.Step) code.Instruction {
	block := &s.Blocks[0]
	registers := append(captured(block), block.Bind[0])
	return code.Instruction{Op: code.Close, R: s.Out, H: s.Region, N: w.numbers[s], Lists: &code.Lists{Registers: registers, Regions: w.handles[s]}}
}

// capture finds the variables that a block uses and does not bind, in the order of their first use.
type capture struct {
	known map[int]bool // what is bound, or has been found
	found []int
}

func captured(b *api.Block) []int {
	c := &capture{known: map[int]bool{}}
	c.block(b)
	return c.found
}

func (c *capture) use(variables ...int) {
	for _, v := range variables {
		if !c.known[v] {
			c.known[v] = true
			c.found = append(c.found, v)
		}
	}
}

func (c *capture) bind(variables ...int) {
	for _, v := range variables {
		c.known[v] = true
	}
}

func (c *capture) block(b *api.Block) {
	c.bind(b.Bind...)
	for i := range b.Steps {
		s := &b.Steps[i]
		c.use(s.Args...)
		for j := range s.Blocks {
			c.block(&s.Blocks[j])
		}
		c.bind(s.Out)
	}
	c.use(b.Value)
}
