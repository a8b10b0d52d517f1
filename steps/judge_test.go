package steps_test

import (
	"fmt"
	"maps"
	"slices"
	"strconv"
	"strings"

	"heriot/api"
)

// judge says what a program is as the chapter does: types are texts, scopes and live sets are copied, and what stands in a lambda is found by paths. Check is held against it.
type judge struct {
	api.Program
	fun   int
	f     api.Fun
	loose bool
	all   []placed // the steps of the function
	bound map[int]bool
	ahead map[int]bool // the regions that some ONew ahead begins
	lives map[string]map[int]bool
}

// placed is a step with its path, as a text: each number with a slash behind it.
type placed struct {
	path   string
	lambda string // the path of the innermost lambda's block in which it stands; none for the function's own
	api.Step
}

// found is an error with its place.
type found struct {
	e    api.Errno
	spot api.Spot
}

// judged is what Check has to say.
func judged(p api.Program) found { return judgedAs(p, false) }

// livesOf is what is live ahead of each step of a program that is taken, by the text of its function and its path.
func livesOf(p api.Program) map[string]map[int]bool {
	out := map[string]map[int]bool{}
	look(p, false, out)
	return out
}

func judgedAs(p api.Program, loose bool) found { return look(p, loose, map[string]map[int]bool{}) }

func look(p api.Program, loose bool, lives map[string]map[int]bool) (f found) {
	defer func() {
		if r := recover(); r != nil {
			f = r.(found)
		}
	}()
	if nodes, depth := sizeOf(p); nodes > api.MaxNodes || depth > api.MaxDepth {
		return found{e: api.ErrBig}
	}
	if !hasShape(p) {
		return found{e: api.ErrShape}
	}
	for i, f := range p.Funs {
		j := &judge{Program: p, fun: i, f: f, loose: loose, bound: map[int]bool{}, ahead: map[int]bool{}, lives: lives}
		j.place(f.Body, "", "")
		j.whole()
	}
	return found{}
}

func sizeOf(p api.Program) (nodes, depth int) {
	var oneType func(t api.Type, at int)
	var block func(b api.Block, at int)
	oneType = func(t api.Type, at int) {
		nodes, depth = nodes+1, max(depth, at)
		for _, a := range t.Args {
			oneType(a, at+1)
		}
	}
	block = func(b api.Block, at int) {
		nodes, depth = nodes+1, max(depth, at)
		for _, s := range b.Steps {
			nodes++
			for _, t := range append([]api.Type{s.Type}, s.Types...) {
				oneType(t, 1)
			}
			for _, b := range s.Blocks {
				block(b, at+1)
			}
		}
	}
	for _, d := range p.Datas {
		for _, c := range d.Cons {
			for _, t := range c.Fields {
				oneType(t, 1)
			}
		}
	}
	for _, f := range p.Funs {
		nodes++
		for _, t := range append([]api.Type{f.Result}, f.Params...) {
			oneType(t, 1)
		}
		block(f.Body, 1)
	}
	return nodes, depth
}

// place lists the steps of a block, at all depths.
func (j *judge) place(b api.Block, path, lambda string) {
	for i, s := range b.Steps {
		own := path + fmt.Sprint(i, "/")
		j.all = append(j.all, placed{own, lambda, s})
		for k, b := range s.Blocks {
			around := lambda
			if s.Op == api.OFn {
				around = own + "0/"
			}
			j.place(b, own+fmt.Sprint(k, "/"), around)
		}
	}
}

func spotOf(fun int, path string) api.Spot {
	out := api.Spot{Fun: fun}
	for _, word := range strings.FieldsFunc(path, func(c rune) bool { return c == '/' }) {
		var n int
		fmt.Sscan(word, &n)
		out.Path = append(out.Path, n)
	}
	return out
}

// ask ends the check, unless something holds, or the error is one of those that a run does not ask for.
func (j *judge) ask(ok bool, e api.Errno, path string) {
	passed := j.loose && slices.Contains([]api.Errno{api.ErrEffect, api.ErrLive, api.ErrMode, api.ErrKeep, api.ErrLeft, api.ErrJoin}, e)
	if !ok && !passed {
		panic(found{e, spotOf(j.fun, path)})
	}
}

// scope is what is in scope at a place, and live there.
type scope struct {
	vars    map[int]api.Type
	regions map[int]bool
	live    map[int]bool
	keeps   []int // all that handles around keep
	lambda  string
	effect  api.Effect // what the function or the lambda may touch
}

func (s scope) inner(live map[int]bool) scope {
	s.vars, s.regions, s.live = maps.Clone(s.vars), maps.Clone(s.regions), maps.Clone(live)
	return s
}

func (j *judge) whole() {
	s := scope{vars: map[int]api.Type{}, regions: map[int]bool{}, live: map[int]bool{}, effect: j.f.Touch}
	for i, t := range j.f.Params {
		s.vars[i] = t
		j.bound[i] = true
	}
	for _, r := range j.f.Touch.Regions {
		s.live[r] = true
	}
	j.block(j.f.Body, "", s, ending{want: j.f.Result, typed: true, none: true})
}

// owns tells whether a region is owned in a function or in a lambda.
func (j *judge) owns(lambda string, region int) bool {
	if region < j.f.Regions {
		return lambda == "" && slices.Contains(j.f.Touch.Regions, region)
	}
	return slices.ContainsFunc(j.all, func(s placed) bool {
		return s.Op == api.ONew && s.Region == region && s.lambda == lambda
	})
}

// inside are the steps in the block of an OFn.
func (j *judge) inside(path string) []placed {
	var out []placed
	for _, s := range j.all {
		if strings.HasPrefix(s.path, path+"0/") {
			out = append(out, s)
		}
	}
	return out
}

// handles are the regions of which a closure captures handles.
func (j *judge) handles(path string) []int {
	named := map[int]bool{}
	for _, s := range j.inside(path) {
		if isMaking(s.Step) {
			named[s.Region] = true
		}
		if s.Op == api.OCall {
			for _, f := range j.Funs[s.Code].Touch.Regions {
				named[s.Regions[f]] = true
			}
		}
	}
	var out []int
	for r := range named {
		own := r >= j.f.Regions && slices.ContainsFunc(j.inside(path), func(s placed) bool { return s.Op == api.ONew && s.Region == r })
		if !own {
			out = append(out, r)
		}
	}
	slices.Sort(out)
	return out
}

func isMaking(s api.Step) bool {
	return s.Op == api.OMake && len(s.Args) > 0 || slices.Contains([]int{api.OTuple, api.OFn, api.ORef, api.OArray}, s.Op)
}

// ending says what is asked at a block's end.
type ending struct {
	want  api.Type
	typed bool
	keep  []int // what is live, if kept
	kept  bool
	none  bool // nothing is live
}

// block gives the type of a block's value, and what is live at its end.
func (j *judge) block(b api.Block, path string, s scope, end ending, binds ...api.Type) (api.Type, map[int]bool) {
	for i, v := range b.Bind {
		s.vars[v] = binds[i]
	}
	for i, st := range b.Steps {
		j.step(st, path+fmt.Sprint(i, "/"), &s)
	}
	t, ok := s.vars[b.Value]
	j.ask(ok, api.ErrScope, path)
	for _, r := range mentions(t) {
		j.ask(!slices.ContainsFunc(j.all, func(s placed) bool {
			return s.Op == api.ONew && s.Region == r && strings.HasPrefix(s.path, path) && (path != "" || r >= j.f.Regions)
		}), api.ErrResult, path)
	}
	j.ask(!end.typed || typeText(t) == typeText(end.want), api.ErrType, path)
	if end.kept {
		j.ask(slices.Equal(end.keep, slices.Sorted(maps.Keys(s.live))), api.ErrKeep, path)
	}
	j.ask(!end.none || len(s.live) == 0, api.ErrLeft, path)
	return t, s.live
}

// mentions are the regions that stand in a type.
func mentions(t api.Type) []int {
	out := slices.Clone(t.Effect.Regions)
	if t.Kind >= api.TData {
		out = append(out, t.Region)
	}
	for _, a := range t.Args {
		out = append(out, mentions(a)...)
	}
	return out
}

// typeText is a type as a text: lists without elements are all the same.
func typeText(t api.Type) string { return string(appendType(nil, t)) }

func appendType(text []byte, t api.Type) []byte {
	text = append(text, '(')
	for _, n := range []int{t.Kind, t.N, t.Region} {
		text = append(strconv.AppendInt(text, int64(n), 10), ' ')
	}
	text = append(text, t.Name...)
	for _, list := range [][]int{t.Effect.Regions, t.Effect.Vars} {
		text = append(text, '{')
		for _, n := range list {
			text = append(strconv.AppendInt(text, int64(n), 10), ' ')
		}
	}
	for _, a := range t.Args {
		text = appendType(text, a)
	}
	return append(text, ')')
}

func typesText(list []api.Type) string { return typeText(api.Type{Args: list}) }

// step looks at a step, and changes the scope to that behind it.
func (j *judge) step(st api.Step, path string, s *scope) {
	j.lives[fmt.Sprint(j.fun, "/", path)] = maps.Clone(s.live)
	args := j.scoped(st, path, s)
	binds := j.typed(st, path, args)
	j.regions(st, path, s, args)
	switch st.Op {
	case api.ONew:
		s.regions[st.Region], s.live[st.Region] = true, true
		return
	case api.OEnd:
		return
	case api.OFn:
		inside := s.inner(nil)
		inside.live, inside.keeps, inside.lambda, inside.effect = map[int]bool{}, nil, path+"0/", st.Type.Effect
		j.block(st.Blocks[0], path+"0/", inside, ending{want: st.Type.Args[1], typed: true, none: true}, st.Type.Args[0])
	case api.OHandle:
		inside := s.inner(s.live)
		inside.keeps = append(slices.Clone(s.keeps), st.Keep...)
		value, _ := j.block(st.Blocks[0], path+"0/", inside, ending{keep: st.Keep, kept: true})
		s.live = map[int]bool{}
		for _, r := range st.Keep {
			s.live[r] = true
		}
		binds = [][]api.Type{nil, {value}}
		for range st.Blocks[2:] {
			binds = append(binds, []api.Type{{}})
		}
		j.join(st, path, 1, binds, s)
	case api.OIf:
		j.join(st, path, 0, make([][]api.Type, 2), s)
	case api.OCase:
		j.join(st, path, 0, binds, s)
	}
	s.vars[st.Out] = st.Type
}

func (j *judge) join(st api.Step, path string, first int, binds [][]api.Type, s *scope) {
	var ends []map[int]bool
	for i := first; i < len(st.Blocks); i++ {
		_, live := j.block(st.Blocks[i], path+fmt.Sprint(i, "/"), s.inner(s.live), ending{want: st.Type, typed: true}, binds[i]...)
		ends = append(ends, live)
	}
	for _, live := range ends {
		j.ask(maps.Equal(live, ends[0]), api.ErrJoin, path)
	}
	s.live = ends[0]
}

// scoped is ErrScope.
func (j *judge) scoped(st api.Step, path string, s *scope) []api.Type {
	var args []api.Type
	for _, a := range st.Args {
		t, ok := s.vars[a]
		j.ask(ok, api.ErrScope, path)
		args = append(args, t)
	}
	regions := append(slices.Clone(st.Regions), st.Keep...)
	var vars []int
	var look func(t api.Type)
	look = func(t api.Type) {
		vars = append(vars, t.Effect.Vars...)
		j.ask(t.Kind != api.TVar || t.N < j.f.Types, api.ErrScope, path)
		for _, a := range t.Args {
			look(a)
		}
	}
	for _, t := range append([]api.Type{st.Type}, st.Types...) {
		look(t)
		regions = append(regions, mentions(t)...)
	}
	for _, e := range st.Effects {
		regions, vars = append(regions, e.Regions...), append(vars, e.Vars...)
	}
	if st.Op == api.OEnd {
		regions = append(regions, st.Region)
	}
	for _, r := range regions {
		j.ask(r < j.f.Regions || s.regions[r], api.ErrScope, path)
	}
	for _, v := range vars {
		j.ask(v < j.f.Effects, api.ErrScope, path)
	}
	if st.Op == api.ONew {
		j.ask(st.Region >= j.f.Regions && !j.ahead[st.Region], api.ErrScope, path)
		j.ahead[st.Region] = true
	}
	var binds []int
	if st.Op != api.ONew && st.Op != api.OEnd {
		binds = append(binds, st.Out)
	}
	for _, b := range st.Blocks {
		binds = append(binds, b.Bind...)
	}
	for _, v := range binds {
		j.ask(!j.bound[v], api.ErrScope, path)
		j.bound[v] = true
	}
	return args
}

// rule is what a step's arguments and its own type have to be, as texts; a capital letter is any type, and a region that is any is not written.
func rule(s api.Step) string {
	switch s.Op {
	case api.OSet:
		return "ref(A) A unit"
	case api.ORef:
		return "A ref(A)"
	case api.ODeref:
		return "ref(A) A"
	case api.OArray:
		return "int A array(A)"
	case api.OAt:
		return "array(A) int A"
	case api.OPut:
		return "array(A) int A unit"
	case api.OLen:
		return "array(A) int"
	case api.ORaise:
		return "int A"
	case api.OPrint:
		return "int unit"
	case api.OApply:
		return "arrow(A,B) A B"
	case api.OAdd, api.OSub, api.OMul, api.ODiv, api.OMod:
		return "int int int"
	case api.OEq, api.OLess:
		return "int int bool"
	case api.OIf:
		return "bool A"
	}
	return ""
}

// obeys tells whether types are as a rule says.
func obeys(rule string, types []api.Type) bool {
	letters := map[string]string{}
	for i, word := range strings.Fields(rule) {
		head, parts, _ := strings.Cut(strings.TrimSuffix(word, ")"), "(")
		if head == "A" || head == "B" {
			parts, head = head, ""
			types = append(slices.Clone(types[:i]), append([]api.Type{{Kind: -1, Args: []api.Type{types[i]}}}, types[i+1:]...)...)
		}
		kind := map[string]int{"": -1, "int": api.TInt, "bool": api.TBool, "unit": api.TUnit, "ref": api.TRef, "array": api.TArray, "arrow": api.TArrow}[head]
		if types[i].Kind != kind {
			return false
		}
		for k, letter := range strings.FieldsFunc(parts, func(c rune) bool { return c == ',' }) {
			text := typeText(types[i].Args[k])
			if of, ok := letters[letter]; ok && of != text {
				return false
			}
			letters[letter] = text
		}
	}
	return true
}

// typed is ErrType and ErrBig; it gives what the blocks of a case bind.
func (j *judge) typed(st api.Step, path string, args []api.Type) (binds [][]api.Type) {
	ask := func(ok bool) { j.ask(ok, api.ErrType, path) }
	same := func(a, b []api.Type) { ask(typesText(a) == typesText(b)) }
	switch st.Op {
	case api.OMake:
		same(args, puts(j.Datas[st.Type.N].Cons[st.Code].Fields, st.Type.Args, []int{st.Type.Region}, []api.Effect{st.Type.Effect}))
	case api.OTuple:
		same(args, st.Type.Args)
	case api.OGet:
		ask(args[0].Kind == api.TTuple && st.Int < int64(len(args[0].Args)))
		same([]api.Type{st.Type}, args[0].Args[st.Int:st.Int+1])
	case api.OCall:
		f := j.Funs[st.Code]
		same(append(slices.Clone(args), st.Type), puts(append(slices.Clone(f.Params), f.Result), st.Types, st.Regions, st.Effects))
	case api.OCase:
		t := args[0]
		ask(t.Kind == api.TData)
		cons := j.Datas[t.N].Cons
		ask(len(cons) == len(st.Blocks))
		for i, c := range cons {
			ask(len(c.Fields) == len(st.Blocks[i].Bind))
			binds = append(binds, puts(c.Fields, t.Args, []int{t.Region}, []api.Effect{t.Effect}))
		}
		for _, list := range binds {
			for _, t := range list {
				nodes, depth := sizeOf(api.Program{Funs: []api.Fun{{Params: []api.Type{t}}}})
				j.ask(nodes-3 <= 256 && depth <= api.MaxDepth, api.ErrBig, path)
			}
		}
	default:
		ask(obeys(rule(st), append(slices.Clone(args), st.Type)))
	}
	return binds
}

// put is the instance of a type.
func put(t api.Type, types []api.Type, regions []int, effects []api.Effect) api.Type {
	if t.Kind == api.TVar {
		return types[t.N]
	}
	parts := puts(t.Args, types, regions, effects)
	t.Args = parts
	if t.Kind >= api.TData {
		t.Region = regions[t.Region]
	}
	t.Effect = putEffect(t.Effect, regions, effects)
	return t
}

func puts(list []api.Type, types []api.Type, regions []int, effects []api.Effect) []api.Type {
	var out []api.Type
	for _, t := range list {
		out = append(out, put(t, types, regions, effects))
	}
	return out
}

func putEffect(e api.Effect, regions []int, effects []api.Effect) api.Effect {
	all, vars := map[int]bool{}, map[int]bool{}
	for _, r := range e.Regions {
		all[regions[r]] = true
	}
	for _, v := range e.Vars {
		for _, r := range effects[v].Regions {
			all[r] = true
		}
		for _, w := range effects[v].Vars {
			vars[w] = true
		}
	}
	return api.Effect{Regions: slices.Sorted(maps.Keys(all)), Vars: slices.Sorted(maps.Keys(vars))}
}

// touches is what a step touches.
func (j *judge) touches(st api.Step, path string, args []api.Type) api.Effect {
	var out api.Effect
	if isMaking(st) {
		out.Regions = append(out.Regions, st.Region)
	}
	switch st.Op {
	case api.OFn:
		out.Regions = append(out.Regions, j.handles(path)...)
	case api.OGet, api.ODeref, api.OSet, api.OAt, api.OPut, api.OLen:
		out.Regions = append(out.Regions, args[0].Region)
	case api.OCase:
		for _, c := range j.Datas[args[0].N].Cons {
			if len(c.Fields) > 0 {
				out.Regions = append(out.Regions, args[0].Region)
			}
		}
	case api.OApply:
		out.Regions = append([]int{args[0].Region}, args[0].Effect.Regions...)
		out.Vars = args[0].Effect.Vars
	case api.OCall:
		out = putEffect(j.Funs[st.Code].Touch, st.Regions, st.Effects)
	}
	return out
}

// regions is ErrEffect, ErrLive, ErrMode and ErrKeep; and what is consumed.
func (j *judge) regions(st api.Step, path string, s *scope, args []api.Type) {
	owned := func(r int) bool { return j.owns(s.lambda, r) }
	touched := j.touches(st, path, args)
	for _, r := range touched.Regions {
		if s.lambda == "" {
			j.ask(r >= j.f.Regions || slices.Contains(s.effect.Regions, r), api.ErrEffect, path)
		} else {
			j.ask(owned(r) || slices.Contains(s.effect.Regions, r), api.ErrEffect, path)
		}
	}
	for _, v := range touched.Vars {
		j.ask(slices.Contains(s.effect.Vars, v), api.ErrEffect, path)
	}
	isEnd := st.Op == api.OEnd
	j.ask(!isEnd || s.lambda != "" || st.Region >= j.f.Regions || slices.Contains(j.f.Touch.Regions, st.Region), api.ErrEffect, path)
	for _, r := range touched.Regions {
		j.ask(s.live[r] || s.lambda != "" && !owned(r), api.ErrLive, path)
	}
	j.ask(!isEnd || !owned(st.Region) || s.live[st.Region], api.ErrLive, path)
	j.ask(!isEnd || owned(st.Region), api.ErrMode, path)
	var consumed []int
	if isEnd {
		consumed = append(consumed, st.Region)
	}
	for k, mode := range st.Modes {
		formal := j.Funs[st.Code].Touch.Regions[k]
		a := st.Regions[formal]
		if mode != api.Last {
			continue
		}
		j.ask(owned(a), api.ErrMode, path)
		for other, r := range st.Regions {
			j.ask(other == formal || r != a, api.ErrMode, path)
		}
		for _, e := range st.Effects {
			j.ask(!slices.Contains(e.Regions, a), api.ErrMode, path)
		}
		consumed = append(consumed, a)
	}
	for _, r := range st.Keep {
		j.ask(s.live[r] && owned(r), api.ErrKeep, path)
	}
	for _, r := range consumed {
		j.ask(!slices.Contains(s.keeps, r), api.ErrKeep, path)
		delete(s.live, r)
	}
}
