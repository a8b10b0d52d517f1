package steps_test

import (
	"reflect"
	"slices"

	"heriot/api"
)

// hasShape tells whether a program is shaped: each thing is held against one of its kind in which just the fields that this has are filled in.
func hasShape(p api.Program) (ok bool) {
	defer func() {
		if r := recover(); r != nil {
			ok = r != "no shape"
			if ok {
				panic(r)
			}
		}
	}()
	s := shaper{p}
	s.declarations()
	for _, f := range p.Funs {
		must(len(f.Body.Bind) == 0 && f.Body.Code == 0)
		s.block(f.Body)
	}
	return true
}

func must(ok bool) {
	if !ok {
		panic("no shape")
	}
}

type shaper struct{ api.Program }

// rises tells whether numbers from 0 to below a bound rise.
func rises(list []int, bound int) {
	ahead := -1
	for _, n := range list {
		must(n > ahead && n < bound)
		ahead = n
	}
}

func within(bound int, list ...int) {
	for _, n := range list {
		must(n >= 0 && n < bound)
	}
}

// bound is how many type variables (any, if below 0), regions, effect variables and data types there are.
type bound struct{ types, regions, effects, datas int }

func (s shaper) oneType(t api.Type, b bound) {
	like := api.Type{Kind: t.Kind, Args: t.Args}
	if t.Kind == api.TVar || t.Kind == api.TData {
		like.N = t.N
	}
	if t.Kind >= api.TData {
		like.Region = t.Region
		within(b.regions, t.Region)
	}
	if t.Kind == api.TData || t.Kind == api.TArrow {
		like.Effect = t.Effect
		rises(t.Effect.Regions, b.regions)
		rises(t.Effect.Vars, b.effects)
	}
	must(t.Kind >= 0 && t.Kind <= api.TArray && typeText(like) == typeText(t))
	switch t.Kind {
	case api.TVar:
		must(t.N >= 0 && (b.types < 0 || t.N < b.types))
		must(len(t.Args) == 0)
	case api.TData:
		within(b.datas, t.N)
		must(len(t.Args) == len(s.Datas[t.N].Vars))
	case api.TTuple:
		must(len(t.Args) >= 2)
	default:
		must(len(t.Args) == map[int]int{api.TArrow: 2, api.TRef: 1, api.TArray: 1}[t.Kind])
	}
	for _, a := range t.Args {
		s.oneType(a, b)
	}
}

func (s shaper) field(t api.Type) {
	must(t.Region == 0)
	if t.Kind == api.TData || t.Kind == api.TArrow {
		must(len(t.Effect.Regions) == 0 && slices.Equal(t.Effect.Vars, []int{0}))
	}
	for _, a := range t.Args {
		s.field(a)
	}
}

func (s shaper) declarations() {
	for i, d := range s.Datas {
		must(len(d.Cons) > 0)
		for _, c := range d.Cons {
			for _, t := range c.Fields {
				s.oneType(t, bound{len(d.Vars), 1, 1, i + 1})
				s.field(t)
			}
		}
	}
	must(len(s.Exns) >= 3 && slices.Equal(s.Exns[:3], []string{"Div", "Index", "Size"}))
	within(len(s.Funs), s.Main)
	for i, f := range s.Funs {
		within(api.MaxNodes+1, f.Types, f.Regions, f.Effects)
		rises(f.Touch.Regions, f.Regions)
		rises(f.Touch.Vars, f.Effects)
		for _, t := range append(slices.Clone(f.Params), f.Result) {
			s.oneType(t, bound{f.Types, f.Regions, f.Effects, len(s.Datas)})
			must(i != s.Main || t.Kind == api.TInt)
		}
		must(i != s.Main || f.Types == 0 && f.Regions == 0 && f.Effects == 0 && len(f.Params) <= api.MaxArgs)
	}
}

func (s shaper) block(b api.Block) {
	within(api.MaxNodes, b.Bind...)
	within(api.MaxNodes, b.Value)
	for _, st := range b.Steps {
		s.step(st)
	}
}

// step holds a step against one that has its fields and no others.
func (s shaper) step(st api.Step) {
	has := func(ops ...int) bool { return slices.Contains(ops, st.Op) }
	like := api.Step{Op: st.Op, Out: -1}
	if !has(api.ONew, api.OEnd) {
		like.Out, like.Type = st.Out, st.Type
		within(api.MaxNodes, st.Out)
		s.oneType(st.Type, bound{-1, api.MaxNodes, api.MaxNodes, len(s.Datas)})
	}
	if !has(api.OInt, api.OBool, api.OUnit, api.OFn, api.OHandle, api.ONew, api.OEnd) {
		like.Args = st.Args
		within(api.MaxNodes, st.Args...)
	}
	if has(api.OInt, api.OBool, api.OGet) {
		like.Int = st.Int
	}
	if has(api.OMake, api.OCall, api.ORaise) {
		like.Code = st.Code
	}
	if has(api.OCall) {
		like.Types, like.Effects, like.Regions, like.Modes = st.Types, st.Effects, st.Regions, st.Modes
		within(api.MaxNodes, st.Regions...)
	}
	if has(api.OMake, api.OTuple, api.OFn, api.ORef, api.OArray, api.ONew, api.OEnd) {
		like.Region = st.Region
		within(api.MaxNodes, st.Region)
	}
	if has(api.OHandle) {
		like.Keep = st.Keep
		rises(st.Keep, api.MaxNodes)
	}
	if has(api.OFn, api.OHandle, api.OIf, api.OCase) {
		like.Blocks = st.Blocks
	}
	must(st.Op >= 0 && st.Op <= api.OEnd && isSameStep(like, st))
	s.counts(st)
	s.kinds(st)
	for i, b := range st.Blocks {
		must(b.Code == 0 || has(api.OHandle) && i >= 2)
		s.block(b)
	}
}

// isSameStep compares steps; lists without elements are all the same.
func isSameStep(a, b api.Step) bool {
	x, y := reflect.ValueOf(a), reflect.ValueOf(b)
	for i := range x.NumField() {
		if v, w := x.Field(i), y.Field(i); v.Kind() == reflect.Slice && v.Len() == 0 && w.Len() == 0 {
			continue
		}
		if x.Type().Field(i).Name == "Type" {
			if typeText(a.Type) != typeText(b.Type) {
				return false
			}
		} else if !reflect.DeepEqual(x.Field(i).Interface(), y.Field(i).Interface()) {
			return false
		}
	}
	return true
}

// counts looks at how many arguments and blocks a step has.
func (s shaper) counts(st api.Step) {
	want, ok := map[int]int{api.OGet: 1, api.ODeref: 1, api.ORef: 1, api.OLen: 1, api.OPrint: 1, api.ORaise: 1, api.OIf: 1, api.OCase: 1, api.OPut: 3,
		api.OApply: 2, api.OSet: 2, api.OAt: 2, api.OArray: 2, api.OAdd: 2, api.OSub: 2, api.OMul: 2, api.ODiv: 2, api.OMod: 2, api.OEq: 2, api.OLess: 2}[st.Op]
	must(!ok || len(st.Args) == want)
	switch st.Op {
	case api.OFn:
		must(len(st.Blocks) == 1 && len(st.Blocks[0].Bind) == 1)
	case api.OIf:
		must(len(st.Blocks) == 2 && len(st.Blocks[0].Bind)+len(st.Blocks[1].Bind) == 0)
	case api.OCase:
		must(len(st.Blocks) >= 1)
	case api.OHandle:
		must(len(st.Blocks) >= 2 && len(st.Blocks[0].Bind) == 0)
		var codes []int
		for i, b := range st.Blocks[1:] {
			must(len(b.Bind) == 1)
			if i > 0 {
				within(len(s.Exns), b.Code)
				must(!slices.Contains(codes, b.Code))
				codes = append(codes, b.Code)
			}
		}
	}
}

// kinds looks at a step's own type, and at what it names.
func (s shaper) kinds(st api.Step) {
	want, ok := map[int]int{api.OInt: api.TInt, api.OBool: api.TBool, api.OUnit: api.TUnit, api.OMake: api.TData, api.OTuple: api.TTuple,
		api.OFn: api.TArrow, api.ORef: api.TRef, api.OArray: api.TArray}[st.Op]
	must(!ok || st.Type.Kind == want)
	region := st.Type.Region
	switch st.Op {
	case api.OBool:
		must(st.Int == 0 || st.Int == 1)
	case api.OGet:
		must(st.Int >= 0)
	case api.OMake:
		within(len(s.Datas[st.Type.N].Cons), st.Code)
		fields := s.Datas[st.Type.N].Cons[st.Code].Fields
		must(len(fields) == len(st.Args) && (len(fields) > 0 && st.Region == region || len(fields) == 0 && st.Region == 0))
	case api.OTuple:
		must(len(st.Args) == len(st.Type.Args) && st.Region == region)
	case api.OFn, api.ORef, api.OArray:
		must(st.Region == region)
	case api.ORaise:
		within(len(s.Exns), st.Code)
	case api.OCall:
		s.call(st)
	}
}

func (s shaper) call(st api.Step) {
	within(len(s.Funs), st.Code)
	f := s.Funs[st.Code]
	must(len(st.Args) == len(f.Params) && len(st.Types) == f.Types && len(st.Effects) == f.Effects && len(st.Regions) == f.Regions && len(st.Modes) == len(f.Touch.Regions))
	within(2, st.Modes...)
	for _, e := range st.Effects {
		rises(e.Regions, api.MaxNodes)
		rises(e.Vars, api.MaxNodes)
	}
	for _, t := range st.Types {
		s.oneType(t, bound{-1, api.MaxNodes, api.MaxNodes, len(s.Datas)})
	}
}
