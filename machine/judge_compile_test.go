package machine_test

import (
	"fmt"
	"slices"
	"strconv"
	"strings"

	"heriot/api"
)

// judgeCompile writes the object of a unit of a program that has one, in the notation of samples.Bytes. Instructions are first written with labels, :k where one stands and @k where it is meant.
func judgeCompile(p api.Program, unit int) string {
	var funs []string
	ahead, main := 0, 0
	exns := map[int]bool{}
	for i, f := range p.Funs {
		if f.Unit < unit {
			ahead++
		}
		if f.Unit != unit {
			continue
		}
		w := &speller{p: p, f: f, exns: exns}
		funs = append(funs, w.fun())
		if i == p.Main {
			main = len(funs)
		}
	}
	named := ""
	for number := 3; number < len(p.Exns); number++ {
		if exns[number] {
			named += fmt.Sprint("(", number, " '", p.Exns[number], ")")
		}
	}
	return fmt.Sprint("HRO ", unit, " ", ahead, " [", strings.Join(funs, "\n"), "] [", named, "] ", main)
}

type speller struct {
	p      api.Program
	f      api.Fun
	exns   map[int]bool
	labels int
	codes  int // how many there are so far
}

func (w *speller) fun() string {
	registers, regions := len(w.f.Params), w.f.Regions
	eachStep(w.f.Body, func(s api.Step) {
		registers = max(registers, s.Out+1)
		for _, b := range s.Blocks {
			for _, v := range b.Bind {
				registers = max(registers, v+1)
			}
		}
		if s.Op == api.ONew {
			regions = max(regions, s.Region+1)
		}
	})
	var inScope []int
	for v := range w.f.Params {
		inScope = append(inScope, v)
	}
	codes := w.code(w.f.Body, inScope)
	return fmt.Sprint("('", w.f.Name, " ", len(w.f.Params), " ", registers, " ", regions, " ", list(w.f.Touch.Regions), " [", strings.Join(codes, "\n"), "])")
}

// code gives the code of a block, and behind it those of the lambdas in it.
func (w *speller) code(b api.Block, inScope []int) []string {
	w.codes++
	lines, inner := w.block(b, inScope)
	lines = append(lines, fmt.Sprint("(return ", b.Value, ")"))
	return append([]string{"[" + strings.Join(placed(lines), " ") + "]"}, inner...)
}

// placed puts numbers in for labels.
func placed(lines []string) []string {
	var out []string
	var pairs []string
	for _, l := range lines {
		if l[0] == ':' {
			pairs = append([]string{"@" + l[1:] + ";", strconv.Itoa(len(out))}, pairs...)
		} else {
			out = append(out, l)
		}
	}
	for i := range out {
		out[i] = strings.NewReplacer(pairs...).Replace(out[i])
	}
	return out
}

func (w *speller) label() (stands, meant string) {
	w.labels++
	return fmt.Sprint(":", w.labels), fmt.Sprint("@", w.labels, ";")
}

// block gives the lines of a block's steps, and the codes of the lambdas in them.
func (w *speller) block(b api.Block, inScope []int) (lines, inner []string) {
	inScope = slices.Concat(inScope, b.Bind)
	for _, s := range b.Steps {
		own, deep := w.step(s, inScope)
		lines, inner = append(lines, own...), append(inner, deep...)
		inScope = append(inScope, s.Out)
	}
	return lines, inner
}

// part is a block whose value goes to a register.
func (w *speller) part(b api.Block, out int, inScope []int) (lines, inner []string) {
	lines, inner = w.block(b, inScope)
	return append(lines, fmt.Sprint("(move ", out, " ", b.Value, ")")), inner
}

func list(numbers []int) string { return fmt.Sprint(numbers) }

func (w *speller) step(s api.Step, inScope []int) (lines, inner []string) {
	a := append(slices.Clone(s.Args), 0, 0, 0)
	one := func(parts ...any) ([]string, []string) {
		return []string{"(" + strings.TrimSuffix(fmt.Sprintln(parts...), "\n") + ")"}, nil
	}
	unit := fmt.Sprint("(load ", s.Out, " #0)")
	switch s.Op {
	case api.OInt, api.OBool:
		return one("load", s.Out, fmt.Sprint("#", s.Int))
	case api.OUnit:
		return []string{unit}, nil
	case api.OMake:
		if len(s.Args) == 0 {
			return one("load", s.Out, fmt.Sprint("#", s.Code))
		}
		return one("make", s.Out, s.Region, s.Code, s.Args)
	case api.OTuple, api.ORef:
		return one("cell", s.Out, s.Region, s.Args)
	case api.OGet:
		return one("field", s.Out, a[0], s.Int)
	case api.ODeref:
		return one("field", s.Out, a[0], 0)
	case api.OSet:
		return []string{fmt.Sprint("(write ", a[0], " ", a[1], ")"), unit}, nil
	case api.OPut:
		return []string{fmt.Sprint("(put ", a[0], " ", a[1], " ", a[2], ")"), unit}, nil
	case api.OPrint:
		return []string{fmt.Sprint("(print ", a[0], ")"), unit}, nil
	case api.OFn:
		return w.lambda(s, inScope)
	case api.OApply:
		return one("apply", s.Out, a[0], a[1])
	case api.OCall:
		pairs := ""
		for k, formal := range w.p.Funs[s.Code].Touch.Regions {
			pairs += fmt.Sprint("(", s.Regions[formal], " ", s.Modes[k], ")")
		}
		return one("call", s.Out, s.Code, list(s.Args), "["+pairs+"]")
	case api.OArray:
		return one("array", s.Out, s.Region, a[0], a[1])
	case api.OAt:
		return one("at", s.Out, a[0], a[1])
	case api.OLen:
		return one("len", s.Out, a[0])
	case api.ORaise:
		w.exns[s.Code] = true
		return one("raise", s.Code, a[0])
	case api.OHandle:
		return w.handle(s, inScope)
	case api.OIf:
		return w.choice(s, inScope)
	case api.OCase:
		return w.cases(s, inScope)
	case api.ONew:
		return one("new", s.Region)
	case api.OEnd:
		return one("end", s.Region)
	}
	name := map[int]string{api.OAdd: "add", api.OSub: "sub", api.OMul: "mul", api.ODiv: "div", api.OMod: "mod", api.OEq: "eq", api.OLess: "less"}[s.Op]
	return one(name, s.Out, a[0], a[1])
}

func (w *speller) choice(s api.Step, inScope []int) (lines, inner []string) {
	elseHere, toElse := w.label()
	endHere, toEnd := w.label()
	first, inFirst := w.part(s.Blocks[0], s.Out, inScope)
	second, inSecond := w.part(s.Blocks[1], s.Out, inScope)
	return slices.Concat([]string{fmt.Sprint("(branch ", s.Args[0], " ", toElse, ")")}, first, []string{"(jump " + toEnd + ")", elseHere}, second, []string{endHere}), append(inFirst, inSecond...)
}

func (w *speller) cases(s api.Step, inScope []int) (lines, inner []string) {
	endHere, toEnd := w.label()
	cases := ""
	for i, b := range s.Blocks {
		here, to := w.label()
		cases += fmt.Sprint("(", to, " ", list(b.Bind), ")")
		own, deep := w.part(b, s.Out, inScope)
		lines, inner = append(append(lines, here), own...), append(inner, deep...)
		if i < len(s.Blocks)-1 {
			lines = append(lines, "(jump "+toEnd+")")
		}
	}
	return slices.Concat([]string{fmt.Sprint("(switch ", s.Args[0], " [", cases, "])")}, lines, []string{endHere}), inner
}

func (w *speller) handle(s api.Step, inScope []int) (lines, inner []string) {
	endHere, toEnd := w.label()
	arms := ""
	lines, inner = w.block(s.Blocks[0], inScope)
	lines = append(lines, "(untry)", fmt.Sprint("(move ", s.Blocks[1].Bind[0], " ", s.Blocks[0].Value, ")"))
	behind, deep := w.part(s.Blocks[1], s.Out, inScope)
	lines, inner = append(lines, behind...), append(inner, deep...)
	for _, b := range s.Blocks[2:] {
		w.exns[b.Code] = true
		here, to := w.label()
		arms += fmt.Sprint("(", b.Code, " ", b.Bind[0], " ", to, ")")
		own, deep := w.part(b, s.Out, inScope)
		lines = slices.Concat(lines, []string{"(jump " + toEnd + ")", here}, own)
		inner = append(inner, deep...)
	}
	return slices.Concat([]string{fmt.Sprint("(try ", list(s.Keep), " [", arms, "])")}, lines, []string{endHere}), inner
}

// lambda writes the instruction of a lambda; the codes in it come behind its own.
func (w *speller) lambda(s api.Step, inScope []int) (lines, inner []string) {
	b := s.Blocks[0]
	number := w.codes
	inner = w.code(b, inScope)
	var captured, regions, begun []int
	use := func(v int) {
		if slices.Contains(inScope, v) && !slices.Contains(captured, v) {
			captured = append(captured, v)
		}
	}
	uses(b, use)
	eachStep(b, func(s api.Step) {
		switch {
		case s.Op == api.ONew:
			begun = append(begun, s.Region)
		case s.Op == api.OMake && len(s.Args) > 0, s.Op == api.OTuple, s.Op == api.OFn, s.Op == api.ORef, s.Op == api.OArray:
			regions = append(regions, s.Region)
		case s.Op == api.OCall:
			for _, formal := range w.p.Funs[s.Code].Touch.Regions {
				regions = append(regions, s.Regions[formal])
			}
		}
	})
	regions = slices.DeleteFunc(regions, func(r int) bool { return slices.Contains(begun, r) })
	slices.Sort(regions)
	regions = slices.Compact(regions)
	return []string{fmt.Sprint("(close ", s.Out, " ", s.Region, " ", number, " ", list(append(captured, b.Bind[0])), " ", list(regions), ")")}, inner
}

// uses tells which variables a block uses, in the order of the text.
func uses(b api.Block, use func(int)) {
	for _, s := range b.Steps {
		for _, v := range s.Args {
			use(v)
		}
		for _, inner := range s.Blocks {
			uses(inner, use)
		}
	}
	use(b.Value)
}

// eachStep goes through the steps of a block, at all depths.
func eachStep(b api.Block, do func(api.Step)) {
	for _, s := range b.Steps {
		do(s)
		for _, inner := range s.Blocks {
			eachStep(inner, do)
		}
	}
}
