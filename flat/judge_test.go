package flat_test

import (
	"slices"
	"strconv"
	"strings"

	"heriot/api"
)

// judge says what a program is as the chapter's tables do: types are texts, and scopes are copied. Valid is held against it.
type judge struct {
	api.Program
	fun   api.Fun
	bound map[int]bool
}

// judged is what Valid has to say.
func judged(p api.Program) (e api.Errno) {
	defer func() {
		if r := recover(); r != nil {
			e = r.(api.Errno)
		}
	}()
	if nodes, depth := sizeOf(p); nodes > api.MaxNodes || depth > api.MaxDepth {
		return api.ErrBig
	}
	j := &judge{Program: p}
	j.declarations()
	for _, f := range p.Funs {
		j.fun, j.bound = f, map[int]bool{}
		scope := map[int]api.Type{}
		for i, t := range f.Params {
			scope[i] = t
			j.bound[i] = true
		}
		j.value(f.Body, scope, nil, j.own(f.Result))
	}
	return api.OK
}

func sizeOf(p api.Program) (nodes, depth int) {
	var oneType func(t api.Type, at int)
	var block func(b api.Block, at int)
	oneType = func(t api.Type, at int) {
		nodes, depth = nodes+1, max(depth, at)
		for _, a := range t.Args {
			oneType(a, at+1)
		}
	}
	block = func(b api.Block, at int) {
		nodes, depth = nodes+1, max(depth, at)
		for _, s := range b.Steps {
			nodes++
			for _, t := range append([]api.Type{s.Type}, s.Types...) {
				oneType(t, 1)
			}
			for _, b := range s.Blocks {
				block(b, at+1)
			}
		}
	}
	for _, d := range p.Datas {
		for _, c := range d.Cons {
			for _, t := range c.Fields {
				oneType(t, 1)
			}
		}
	}
	for _, f := range p.Funs {
		nodes++
		for _, t := range append([]api.Type{f.Result}, f.Params...) {
			oneType(t, 1)
		}
		block(f.Body, 1)
	}
	return nodes, depth
}

func must(ok bool) {
	if !ok {
		panic(api.ErrFlat)
	}
}

func isEmpty(e api.Effect) bool { return len(e.Regions)+len(e.Vars) == 0 }

func vars(count int) []string {
	var out []string
	for i := range count {
		out = append(out, "v"+strconv.Itoa(i))
	}
	return out
}

// text writes a type, with texts for its variables.
func (j *judge) text(t api.Type, put []string, datas int) string {
	must(t.Name == "" && t.Region == 0 && isEmpty(t.Effect) && t.Kind >= 0 && t.Kind <= api.TArray)
	var parts []string
	for _, a := range t.Args {
		parts = append(parts, j.text(a, put, datas))
	}
	many := len(parts)
	must(t.N == 0 || t.Kind == api.TVar || t.Kind == api.TData)
	switch t.Kind {
	case api.TVar:
		must(many == 0 && t.N >= 0 && t.N < len(put))
		return put[t.N]
	case api.TData:
		must(t.N >= 0 && t.N < datas)
		must(many == len(j.Datas[t.N].Vars))
		parts = append([]string{"data" + strconv.Itoa(t.N)}, parts...)
	case api.TTuple:
		must(many >= 2)
	default:
		must(many == []int{0, 0, 0, 0, 0, 0, 2, 1, 1}[t.Kind])
	}
	return "(" + []string{"int", "bool", "unit", "", "", "*", "->", "ref", "array"}[t.Kind] + " " + strings.Join(parts, " ") + ")"
}

// own is the text of a type in the function that is looked at.
func (j *judge) own(t api.Type) string { return j.text(t, vars(j.fun.Types), len(j.Datas)) }

func (j *judge) owns(list []api.Type) []string {
	var out []string
	for _, t := range list {
		out = append(out, j.own(t))
	}
	return out
}

func (j *judge) declarations() {
	for i, d := range j.Datas {
		must(len(d.Cons) > 0)
		for _, c := range d.Cons {
			for _, t := range c.Fields {
				j.text(t, vars(len(d.Vars)), i+1)
			}
		}
	}
	must(len(j.Exns) >= 3 && slices.Equal(j.Exns[:3], []string{"Div", "Index", "Size"}))
	must(j.Main >= 0 && j.Main < len(j.Funs))
	for i, f := range j.Funs {
		must(f.Types >= 0 && f.Types <= api.MaxNodes && f.Regions == 0 && f.Effects == 0 && isEmpty(f.Touch))
		j.fun = f
		types := append(j.owns(f.Params), j.own(f.Result))
		if i == j.Main {
			must(f.Types == 0 && len(f.Params) <= api.MaxArgs)
			for _, t := range types {
				must(t == "(int )")
			}
		}
	}
}

func (j *judge) take(v int) {
	must(v >= 0 && v < api.MaxNodes && !j.bound[v])
	j.bound[v] = true
}

func (j *judge) inScope(scope map[int]api.Type, v int) api.Type {
	t, ok := scope[v]
	must(ok)
	return t
}

// block gives the type of a block's value.
func (j *judge) block(b api.Block, around map[int]api.Type, binds []api.Type) api.Type {
	scope := map[int]api.Type{}
	for v, t := range around {
		scope[v] = t
	}
	must(len(b.Bind) == len(binds))
	for i, v := range b.Bind {
		j.take(v)
		scope[v] = binds[i]
	}
	for _, s := range b.Steps {
		var args []api.Type
		for _, a := range s.Args {
			args = append(args, j.inScope(scope, a))
		}
		j.fields(s)
		j.step(s, args, scope)
		scope[s.Out] = s.Type
	}
	return j.inScope(scope, b.Value)
}

func (j *judge) value(b api.Block, scope map[int]api.Type, binds []api.Type, want string) {
	must(b.Code == 0)
	must(j.own(j.block(b, scope, binds)) == want)
}

// fields looks at the fields that a step has, and takes its variable.
func (j *judge) fields(s api.Step) {
	has := func(ops ...int) bool { return slices.Contains(ops, s.Op) }
	must(s.Op >= 0 && s.Op <= api.OCase)
	must(has(api.OInt, api.OBool, api.OGet) || s.Int == 0)
	must(has(api.OMake, api.OCall, api.ORaise) || s.Code == 0)
	must(has(api.OCall) || len(s.Types) == 0)
	must(has(api.OFn, api.OHandle, api.OIf, api.OCase) || len(s.Blocks) == 0)
	must(len(s.Effects)+len(s.Regions)+len(s.Modes)+len(s.Keep) == 0 && s.Region == 0)
	j.own(s.Type)
	j.take(s.Out)
}

// rule is what a step's arguments and its own type have to be, as texts; a capital letter is any type.
func (j *judge) rule(s api.Step) string {
	switch s.Op {
	case api.OInt, api.OUnit, api.OBool:
		return []string{"int", "bool", "unit"}[s.Op]
	case api.ORef:
		return "A (ref A)"
	case api.ODeref:
		return "(ref A) A"
	case api.OSet:
		return "(ref A) A unit"
	case api.OArray:
		return "int A (array A)"
	case api.OAt:
		return "(array A) int A"
	case api.OPut:
		return "(array A) int A unit"
	case api.OLen:
		return "(array A) int"
	case api.ORaise:
		return "int A"
	case api.OPrint:
		return "int unit"
	case api.OApply:
		return "(-> A B) A B"
	case api.OEq, api.OLess:
		return "int int bool"
	case api.OIf:
		return "bool A"
	}
	return "int int int"
}

// ruled asks types to be as a rule says.
func (j *judge) ruled(s api.Step, args []api.Type) {
	types := j.owns(append(args, s.Type))
	rule := strings.NewReplacer("int", "(int )", "bool", "(bool )", "unit", "(unit )").Replace(j.rule(s))
	// Types have no capital letters, so that each one can be put in where its letter stands first.
	for _, letter := range []string{"A", "B"} {
		at := strings.Index(rule, letter)
		all := strings.Join(types, " ")
		if at < 0 {
			continue
		}
		must(at < len(all))
		rule = strings.ReplaceAll(rule, letter, begin(all[at:]))
	}
	must(rule == strings.Join(types, " "))
}

// begin is the type with which a text begins.
func begin(text string) string {
	depth := 0
	for i, c := range text {
		switch {
		case c == '(':
			depth++
		case c == ')' && depth == 1:
			return text[:i+1]
		case c == ')' && depth == 0 || c == ' ' && depth == 0:
			return text[:i]
		case c == ')':
			depth--
		}
	}
	return text
}

func (j *judge) step(s api.Step, args []api.Type, scope map[int]api.Type) {
	out := j.own(s.Type)
	isData := func(t api.Type) { must(t.Kind == api.TData) }
	switch s.Op {
	case api.OMake:
		isData(s.Type)
		cons := j.Datas[s.Type.N].Cons
		must(s.Code >= 0 && s.Code < len(cons))
		must(slices.Equal(j.owns(args), j.at(cons[s.Code].Fields, j.owns(s.Type.Args))))
	case api.OTuple:
		must(s.Type.Kind == api.TTuple && slices.Equal(j.owns(args), j.owns(s.Type.Args)))
	case api.OGet:
		must(len(args) == 1 && args[0].Kind == api.TTuple && s.Int >= 0 && s.Int < int64(len(args[0].Args)))
		must(out == j.own(args[0].Args[s.Int]))
	case api.OCall:
		must(s.Code >= 0 && s.Code < len(j.Funs) && len(s.Types) == j.Funs[s.Code].Types)
		f := j.Funs[s.Code]
		must(slices.Equal(append(j.owns(args), out), j.at(append(slices.Clone(f.Params), f.Result), j.owns(s.Types))))
	case api.OFn:
		must(len(args) == 0 && len(s.Blocks) == 1 && s.Type.Kind == api.TArrow && len(s.Blocks[0].Bind) == 1)
		j.value(s.Blocks[0], scope, s.Type.Args[:1], j.own(s.Type.Args[1]))
	case api.OHandle:
		j.handle(s, args, scope)
	case api.OCase:
		must(len(args) == 1)
		isData(args[0])
		j.cases(s, args[0], scope)
	default:
		must(s.Op != api.OBool || s.Int == 0 || s.Int == 1)
		must(s.Op != api.ORaise || s.Code >= 0 && s.Code < len(j.Exns))
		j.ruled(s, args)
		if s.Op == api.OIf {
			must(len(s.Blocks) == 2 && len(s.Blocks[0].Bind)+len(s.Blocks[1].Bind) == 0)
			j.value(s.Blocks[0], scope, nil, out)
			j.value(s.Blocks[1], scope, nil, out)
		}
	}
}

func (j *judge) at(list []api.Type, put []string) []string {
	var out []string
	for _, t := range list {
		out = append(out, j.text(t, put, len(j.Datas)))
	}
	return out
}

func (j *judge) handle(s api.Step, args []api.Type, scope map[int]api.Type) {
	must(len(args) == 0 && len(s.Blocks) >= 2 && len(s.Blocks[0].Bind) == 0 && len(s.Blocks[1].Bind) == 1)
	codes := map[int]bool{}
	for _, b := range s.Blocks[2:] {
		must(len(b.Bind) == 1 && b.Code >= 0 && b.Code < len(j.Exns) && !codes[b.Code])
		codes[b.Code] = true
	}
	must(s.Blocks[0].Code == 0)
	value := j.block(s.Blocks[0], scope, nil)
	j.value(s.Blocks[1], scope, []api.Type{value}, j.own(s.Type))
	for _, b := range s.Blocks[2:] {
		b.Code = 0
		j.value(b, scope, []api.Type{{}}, j.own(s.Type))
	}
}

func (j *judge) cases(s api.Step, of api.Type, scope map[int]api.Type) {
	cons := j.Datas[of.N].Cons
	must(len(s.Blocks) == len(cons))
	binds := make([][]api.Type, len(cons))
	for i, c := range cons {
		must(len(s.Blocks[i].Bind) == len(c.Fields))
		for _, t := range c.Fields {
			binds[i] = append(binds[i], put(t, of.Args))
		}
	}
	for _, list := range binds {
		for _, t := range list {
			if nodes, depth := sizeOf(api.Program{Funs: []api.Fun{{Params: []api.Type{t}}}}); nodes-3 > 256 || depth > api.MaxDepth {
				panic(api.ErrBig)
			}
		}
	}
	for i, b := range s.Blocks {
		j.value(b, scope, binds[i], j.own(s.Type))
	}
}

func put(t api.Type, args []api.Type) api.Type {
	if t.Kind == api.TVar {
		return args[t.N]
	}
	parts := make([]api.Type, len(t.Args))
	for i, a := range t.Args {
		parts[i] = put(a, args)
	}
	t.Args = parts
	return t
}
