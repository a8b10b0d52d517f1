package machine_test

import (
	"slices"

	"heriot/api"
)

// The judge is a second machine for tests: it reads bytes by the chapter's table of operands, looks at what is well-formed as the chapter says it, and runs images with all frames on a list that is never cut, with cells of its own and without a store.

// judged is an object or an image as the judge reads it.
type judged struct {
	unit, ahead int
	funs        []judgedFun
	raw         []byte // of the functions, one behind the other
	exns        []int
	names       []string
	main        int
}

type judgedFun struct {
	name                       string
	params, registers, regions int
	touch                      []int
	codes                      [][]judgedStep
}

// judgedStep is an instruction: its operands that are no lists, its int, its lists of numbers, and its list of tuples, each with the list that stands in it.
type judgedStep struct {
	op     int
	n      []int
	v      int64
	lists  [][]int
	tuples [][]int
	inner  [][]int
}

// wrong ends the judge's reading.
type wrong struct{}

func must(ok bool) {
	if !ok {
		panic(wrong{})
	}
}

// isRight tells whether something ends without being wrong.
func isRight(do func()) (ok bool) {
	defer func() {
		if r := recover(); r != nil {
			if _, is := r.(wrong); !is {
				panic(r)
			}
			ok = false
		}
	}()
	do()
	return true
}

type taker []byte

func (t *taker) byte() int {
	must(len(*t) > 0)
	b := (*t)[0]
	*t = (*t)[1:]
	return int(b)
}

// wide takes a number of 64 bits by its digits to the base 128.
func (t *taker) wide() uint64 {
	var digits []uint64
	for {
		b := t.byte()
		digits = append(digits, uint64(b%128))
		if b < 128 {
			break
		}
		must(len(digits) < 10)
	}
	must(len(digits) == 1 || digits[len(digits)-1] > 0)
	must(len(digits) < 10 || digits[9] == 1)
	n := uint64(0)
	for _, d := range slices.Backward(digits) {
		n = n*128 + d
	}
	return n
}

func (t *taker) number() int {
	n := t.wide()
	must(n < 1<<63)
	return int(n)
}

func (t *taker) int() int64 {
	n := t.wide()
	if n%2 == 0 {
		return int64(n / 2)
	}
	return -int64(n/2) - 1
}

func (t *taker) text() string {
	n := t.number()
	must(n <= len(*t))
	text := string((*t)[:n])
	*t = (*t)[n:]
	return text
}

func (t *taker) numbers() []int {
	var out []int
	for range t.number() {
		out = append(out, t.number())
	}
	return out
}

func (t *taker) mark(last byte) {
	for _, b := range []byte{72, 82, last, 1} {
		must(t.byte() == int(b))
	}
}

// operands are the chapter's table: how many numbers an instruction begins with, and what comes then: an i for an int, an l for a list of numbers, 2 and 3 for a list of pairs and triples, and s for that of a SWITCH.
var operands = map[int]struct {
	numbers int
	then    string
}{
	0: {1, "i"}, 1: {2, ""}, 2: {3, "l"}, 3: {2, "l"}, 4: {3, ""}, 5: {2, ""}, 6: {3, "ll"}, 7: {3, ""}, 8: {2, "l2"}, 9: {4, ""},
	10: {3, ""}, 11: {3, ""}, 12: {2, ""}, 13: {2, ""}, 14: {0, "l3"}, 15: {0, ""}, 16: {1, ""}, 17: {3, ""}, 18: {3, ""}, 19: {3, ""},
	20: {3, ""}, 21: {3, ""}, 22: {3, ""}, 23: {3, ""}, 24: {2, ""}, 25: {1, "s"}, 26: {1, ""}, 27: {1, ""}, 28: {1, ""}, 29: {1, ""},
}

func (t *taker) step() judgedStep {
	s := judgedStep{op: t.byte()}
	has, ok := operands[s.op]
	must(ok)
	for range has.numbers {
		s.n = append(s.n, t.number())
	}
	for _, what := range has.then {
		switch what {
		case 'i':
			s.v = t.int()
		case 'l':
			s.lists = append(s.lists, t.numbers())
		case 's':
			for range t.number() {
				s.tuples = append(s.tuples, []int{t.number()})
				s.inner = append(s.inner, t.numbers())
			}
		default:
			for range t.number() {
				var tuple []int
				for range what - '0' {
					tuple = append(tuple, t.number())
				}
				s.tuples = append(s.tuples, tuple)
			}
		}
	}
	return s
}

func (t *taker) fun() judgedFun {
	f := judgedFun{name: t.text(), params: t.number(), registers: t.number(), regions: t.number(), touch: t.numbers()}
	for range t.number() {
		var code []judgedStep
		for range t.number() {
			code = append(code, t.step())
		}
		f.codes = append(f.codes, code)
	}
	return f
}

func (t *taker) rest(j *judged) {
	count := t.number()
	begin := *t
	for range count {
		j.funs = append(j.funs, t.fun())
	}
	j.raw = begin[:len(begin)-len(*t)]
	for range t.number() {
		j.exns = append(j.exns, t.number())
		j.names = append(j.names, t.text())
	}
	j.main = t.number()
	must(len(*t) == 0)
}

// judgeObject reads an object, if it is well-formed.
func judgeObject(bytes []byte) (*judged, bool) {
	j, t := &judged{}, taker(bytes)
	return j, isRight(func() {
		t.mark(79)
		j.unit, j.ahead = t.number(), t.number()
		t.rest(j)
		must(j.unit < api.MaxUnits && j.main <= len(j.funs))
		j.wellFormed(func(s judgedStep) {
			if s.n[1] >= j.ahead {
				j.fits(s, s.n[1]-j.ahead)
			}
		})
	})
}

// judgeImage reads an image, if it is well-formed.
func judgeImage(bytes []byte) (*judged, bool) {
	j, t := &judged{}, taker(bytes)
	return j, isRight(func() {
		t.mark(73)
		t.rest(j)
		must(len(j.funs) > 0 && j.main < len(j.funs))
		j.wellFormed(func(s judgedStep) { j.fits(s, s.n[1]) })
		must(j.funs[j.main].params <= api.MaxArgs && len(j.funs[j.main].touch) == 0)
	})
}

// fits asks a call to be one of a function.
func (j *judged) fits(call judgedStep, callee int) {
	must(callee < len(j.funs))
	must(len(call.lists[0]) == j.funs[callee].params && len(call.tuples) == len(j.funs[callee].touch))
}

func (j *judged) wellFormed(call func(judgedStep)) {
	must(len(j.funs) <= api.MaxNodes)
	var named []int
	for _, f := range j.funs {
		must(f.params <= f.registers && f.registers <= api.MaxNodes && f.regions <= api.MaxNodes)
		below(f.touch, f.regions)
		rising(f.touch)
		must(len(f.codes) >= 1 && len(f.codes) <= api.MaxNodes)
		for _, code := range f.codes {
			must(len(code) >= 1 && len(code) <= 16*api.MaxNodes)
			for i, s := range code {
				f.wellFormed(s, i, len(code))
				switch s.op {
				case 8:
					call(s)
				case 13:
					named = append(named, s.n[0])
				case 14:
					for _, x := range s.tuples {
						named = append(named, x[0])
					}
				}
			}
			must(code[len(code)-1].op == 29 || code[len(code)-1].op == 13)
		}
	}
	rising(j.exns)
	below(j.exns, api.MaxNodes)
	slices.Sort(named)
	named = slices.Compact(slices.DeleteFunc(named, func(n int) bool { return n < 3 }))
	must(slices.Equal(named, j.exns))
}

func below(list []int, bound int) {
	for _, n := range list {
		must(n < bound)
	}
}

func rising(list []int) {
	for i := range list {
		must(i == 0 || list[i-1] < list[i])
	}
}

// wellFormed looks at the i-th instruction of a code of so many.
func (f judgedFun) wellFormed(s judgedStep, i, count int) {
	behind := func(to int) { must(to > i && to < count) }
	switch s.op {
	case 0, 1, 5, 7, 10, 11, 12, 16, 17, 18, 19, 20, 21, 22, 23, 29:
		below(s.n, f.registers)
	case 2, 3, 6:
		below([]int{s.n[0]}, f.registers)
		below([]int{s.n[1]}, f.regions)
		below(s.lists[0], f.registers)
		if s.op == 6 {
			must(s.n[2] >= 1 && s.n[2] < len(f.codes) && len(s.lists[0]) > 0)
			below(s.lists[1], f.regions)
		}
	case 4:
		below(s.n[:2], f.registers)
	case 8:
		below(append([]int{s.n[0]}, s.lists[0]...), f.registers)
		for _, pair := range s.tuples {
			must(pair[0] < f.regions && pair[1] <= 1)
		}
	case 9:
		below([]int{s.n[0], s.n[2], s.n[3]}, f.registers)
		below([]int{s.n[1]}, f.regions)
	case 13:
		below(s.n[1:], f.registers)
	case 14:
		below(s.lists[0], f.regions)
		rising(s.lists[0])
		var exns []int
		for _, x := range s.tuples {
			must(!slices.Contains(exns, x[0]))
			exns = append(exns, x[0])
			below(x[1:2], f.registers)
			behind(x[2])
		}
	case 24:
		below(s.n[:1], f.registers)
		behind(s.n[1])
	case 25:
		below(s.n, f.registers)
		for k, x := range s.tuples {
			behind(x[0])
			below(s.inner[k], f.registers)
		}
	case 26:
		behind(s.n[0])
	case 27, 28:
		below(s.n, f.regions)
	}
}
