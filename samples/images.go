package samples

import (
	"slices"
	"strconv"
	"strings"
)

// Kinds of what the registers of an image by chance are thought to have.
const (
	hasNothing = iota
	hasInt
	hasPlain
	hasMade
	hasClosure
	hasArray
)

// head is what callers know of a function of an image.
type head struct {
	params, registers, regions int
	touch                      []int
	lambdas                    [][]int // for each code but the first the registers that closures capture, and the one that it binds
}

// builder makes images by chance, which are well-formed, and whose runs do much: what a register has, and which handles a frame has, is mostly as it is asked for.
type builder struct {
	chance
	funs  []head
	named map[int]bool // the exceptions from 3 on that are named
	own   head
	which int // the number of the function that is made
	count int // how many instructions the code has
	done  []string
	has   []int        // what the registers are thought to have
	given map[int]bool // the handles that the frame is thought to have

	tries  int // how many tries are thought to be open
	result int // the register that the last call gives a value
}

// Image gives an image in the notation of Bytes, another one for each number; main is the last function and has two parameters.
func Image(number int) string {
	b := &builder{chance: chance{uint64(number)*0x9e3779b97f4a7c15 + 7}, named: map[int]bool{}}
	for range 1 + b.below(3) {
		b.funs = append(b.funs, b.someHead(b.below(4)))
	}
	main := b.someHead(0)
	main.params, main.registers = 2, main.registers+2
	b.funs = append(b.funs, main)
	var texts []string
	for i, f := range b.funs {
		b.which = i
		texts = append(texts, b.fun("f"+strconv.Itoa(i), f))
	}
	exns := ""
	for number := 3; number < 6; number++ {
		if b.named[number] {
			exns += Text("(", number, " 'e", number, ")")
		}
	}
	return Text("HRI [", strings.Join(texts, "\n"), "]\n[", exns, "] ", len(texts)-1)
}

// Text writes texts, numbers and lists of numbers one behind the other.
func Text(parts ...any) string {
	out := ""
	for _, p := range parts {
		switch p := p.(type) {
		case int:
			out += strconv.Itoa(p)
		case []int:
			out += "[" + strings.Join(numberTexts("", p), " ") + "]"
		case string:
			out += p
		}
	}
	return out
}

func (b *builder) someHead(touch int) head {
	h := head{registers: 2 + b.below(5), regions: touch + b.below(3)}
	h.params = b.below(min(h.registers, 3) + 1)
	for region := range h.regions {
		if len(h.touch) < touch && b.below(4) > 0 {
			h.touch = append(h.touch, region)
		}
	}
	for range b.below(3) {
		h.lambdas = append(h.lambdas, b.registers(h.registers, 1+b.below(3)))
	}
	return h
}

func (b *builder) registers(bound, count int) []int {
	var out []int
	for range count {
		out = append(out, b.below(bound))
	}
	return out
}

func (b *builder) fun(name string, h head) string {
	b.own = h
	codes := b.code(upTo(h.params), h.touch)
	for _, registers := range h.lambdas {
		codes += "\n " + b.code(registers, nil)
	}
	return Text("('", name, " ", h.params, " ", h.registers, " ", h.regions, " ", h.touch, " [", codes, "])")
}

// code makes a code that begins with something in some registers, and with some handles.
func (b *builder) code(registers, handles []int) string {
	b.done, b.has, b.given, b.tries = nil, make([]int, b.own.registers), map[int]bool{}, 0
	b.count = b.own.registers + b.own.regions + 4 + b.below(20)
	for _, register := range registers {
		b.has[register] = hasInt
	}
	for _, region := range handles {
		b.given[region] = true
	}
	b.prepare()
	handed := 0
	if b.mayCall() {
		handed = b.below(4)
	}
	for len(b.done) < b.count-1-handed {
		b.done = append(b.done, "("+b.instruction()+")")
	}
	b.done = append(b.done, b.ending(handed)...)
	return "[" + strings.Join(b.done, " ") + "]"
}

// ending are the last instructions of a code; with some ahead of the very last one, these call something and hand its result on.
func (b *builder) ending(handed int) []string {
	if handed == 0 && b.below(4) == 0 {
		return []string{Text("(raise ", b.exn(), " ", b.register(hasInt), ")")}
	}
	result, out := b.register(hasInt), []string{}
	if handed > 0 {
		out = append(out, "("+b.call()+")")
		result = b.result
	}
	for len(out) < handed {
		if b.below(2) == 0 {
			out = append(out, Text("(jump ", b.count-handed+len(out), ")"))
			continue
		}
		to := b.below(b.own.registers)
		out = append(out, Text("(move ", to, " ", result, ")"))
		result = to
	}
	if b.below(8) == 0 {
		result = b.full()
	}
	return append(out, Text("(return ", result, ")"))
}

// prepare makes instructions by which most registers have something, and by which there are most handles.
func (b *builder) prepare() {
	for register, kind := range b.has {
		if kind == hasNothing && b.below(8) > 0 {
			b.has[register] = hasInt
			b.done = append(b.done, Text("(load ", register, " #", b.below(5), ")"))
		}
	}
	for region := range b.own.regions {
		if !b.given[region] && b.below(8) > 0 {
			b.given[region] = true
			b.done = append(b.done, Text("(new ", region, ")"))
		}
	}
}

// register is mostly one that has what is asked for.
func (b *builder) register(want int) int {
	var found []int
	for register, kind := range b.has {
		if kind == want {
			found = append(found, register)
		}
	}
	if len(found) == 0 || b.below(300) == 0 {
		return b.below(b.own.registers)
	}
	return found[b.below(len(found))]
}

// full is mostly a register that is not empty, and often one that has an int.
func (b *builder) full() int {
	if b.below(4) > 0 {
		return b.register(hasInt)
	}
	for range 10 {
		if register := b.below(b.own.registers); b.has[register] != hasNothing {
			return register
		}
	}
	return b.below(b.own.registers)
}

func (b *builder) fulls(count int) []int {
	var out []int
	for range count {
		out = append(out, b.full())
	}
	return out
}

// gets is a register that gets something.
func (b *builder) gets(kind int) int {
	register := b.below(b.own.registers)
	b.has[register] = kind
	return register
}

// region is mostly one of which there is a handle.
func (b *builder) region() int {
	for range 10 {
		if region := b.below(b.own.regions); b.given[region] {
			return region
		}
	}
	return b.below(b.own.regions)
}

// to is an instruction behind the one that is made.
func (b *builder) to() int {
	here := len(b.done)
	return min(here+1+b.below(1+b.below(8)), b.count-1)
}

// exn is an exception that is named.
func (b *builder) exn() int {
	number := b.below(6)
	b.named[number] = true
	return number
}

// instruction makes an instruction. Those that need the name of a region are made where there is one.
func (b *builder) instruction() string {
	if b.own.regions == 0 || b.below(3) == 0 {
		return b.simple()
	}
	switch b.below(12) {
	case 0, 1:
		region := b.below(b.own.regions)
		b.given[region] = true
		return Text("new ", region)
	case 2:
		region := b.region()
		delete(b.given, region)
		return Text("end ", region)
	case 3, 4:
		values := b.fulls((4 + b.below(9)) / 4)
		return Text("cell ", b.gets(hasPlain), " ", b.region(), " ", values)
	case 5:
		con := b.below(3)
		values := b.fulls((con*8 + b.below(9)) / 8)
		return Text("make ", b.gets(hasMade), " ", b.region(), " ", con, " ", values)
	case 6:
		size, element := b.register(hasInt), b.full()
		return Text("array ", b.gets(hasArray), " ", b.region(), " ", size, " ", element)
	case 7, 8:
		if len(b.own.lambdas) > 0 {
			number := b.below(len(b.own.lambdas))
			regions := slices.DeleteFunc(upTo(b.own.regions), func(int) bool { return b.below(2) == 0 })
			return Text("close ", b.gets(hasClosure), " ", b.region(), " ", 1+number, " ", b.own.lambdas[number], " ", regions)
		}
	case 9, 10:
		if b.mayCall() {
			return b.call()
		}
	}
	return b.read()
}

// call makes a call, mostly of a function ahead. The same handle is often handed over twice.
func (b *builder) call() string {
	number := b.below(len(b.funs))
	if b.which > 0 && b.below(3) > 0 {
		number = b.below(b.which)
	}
	args := []int{}
	for range b.funs[number].params {
		args = append(args, b.register(hasInt))
	}
	pairs, region := "", 0
	for i := range b.funs[number].touch {
		if b.own.regions == 0 {
			return b.call()
		}
		if i == 0 || b.below(3) > 0 {
			region = b.region()
		}
		pairs += Text("(", region, " ", min(b.below(3), 1), ")")
	}
	b.result = b.gets(hasInt)
	return Text("call ", b.result, " ", number, " ", args, " [", pairs, "]")
}

// read makes an instruction that touches a cell, mostly where there is one.
func (b *builder) read() string {
	which := b.below(8)
	asked := [...]int{hasPlain, hasPlain, hasPlain, hasClosure, hasArray, hasArray, hasArray, hasMade}[which]
	if !slices.Contains(b.has, asked) && b.below(20) > 0 {
		return b.simple()
	}
	switch which {
	case 0, 1:
		from := b.register(hasPlain)
		return Text("field ", b.gets(hasInt), " ", from, " ", b.below(5)/4)
	case 2:
		return Text("write ", b.register(hasPlain), " ", b.full())
	case 3:
		closure, argument := b.register(hasClosure), b.full()
		return Text("apply ", b.gets(hasInt), " ", closure, " ", argument)
	case 4:
		array, i := b.register(hasArray), b.register(hasInt)
		return Text("at ", b.gets(hasInt), " ", array, " ", i)
	case 5:
		return Text("put ", b.register(hasArray), " ", b.register(hasInt), " ", b.full())
	case 6:
		array := b.register(hasArray)
		return Text("len ", b.gets(hasInt), " ", array)
	}
	cases := ""
	from := b.register(hasMade)
	for con := range 3 {
		cases += Text("(", b.to(), " ", b.registers(b.own.registers, con), ")")
	}
	return Text("switch ", from, " [", cases, "]")
}

// simple makes an instruction without a name of a region, but for a try.
func (b *builder) simple() string {
	switch b.below(14) {
	case 0, 1, 2:
		return Text("load ", b.gets(hasInt), " #", b.below(6)-1)
	case 3:
		from := b.full()
		to := b.below(b.own.registers)
		b.has[to] = b.has[from]
		return Text("move ", to, " ", from)
	case 4, 5, 6:
		ops := []string{"add", "sub", "mul", "div", "mod", "eq", "less"}
		first, second := b.register(hasInt), b.register(hasInt)
		return Text(ops[b.below(7)], " ", b.gets(hasInt), " ", first, " ", second)
	case 7:
		return Text("branch ", b.register(hasInt), " ", b.to())
	case 8:
		return Text("jump ", b.to())
	case 9:
		return Text("print ", b.register(hasInt))
	case 10, 11:
		return b.try()
	case 12:
		if b.tries > 0 {
			b.tries--
			return "untry"
		}
	case 13:
		if b.below(4) == 0 {
			return Text("raise ", b.exn(), " ", b.register(hasInt))
		}
	}
	if b.mayCall() {
		return b.call()
	}
	return Text("print ", b.register(hasInt))
}

// mayCall tells whether there is a function ahead; if there is none, a call mostly goes round for ever.
func (b *builder) mayCall() bool { return b.which > 0 || b.below(8) == 0 }

func (b *builder) try() string {
	b.tries++
	keep := slices.DeleteFunc(upTo(b.own.regions), func(int) bool { return b.below(2) == 0 })
	arms := ""
	for exn := range 6 {
		if b.below(3) == 0 {
			b.named[exn] = true
			arms += Text("(", exn, " ", b.gets(hasInt), " ", b.to(), ")")
		}
	}
	return Text("try ", keep, " [", arms, "]")
}
