package samples

import (
	"slices"

	"heriot/api"
)

// act adds some steps to a block.
func (c *composer) act(s *scene) {
	switch c.below(14) {
	case 0, 1:
		if !c.isFlat {
			c.begin(s)
		}
	case 2:
		if len(s.mine) > 0 && c.below(2) == 0 {
			c.end(s)
		}
	case 3, 4, 5:
		c.call(s)
	case 6, 7, 8, 9:
		if all := c.readable(s); len(all) > 0 {
			c.read(s, all[c.below(len(all))])
		}
	case 10:
		if c.inside < 4 && !c.isBare(s) {
			c.choice(s)
		}
	case 11, 12:
		if c.inside < 4 && !c.isBare(s) {
			c.handle(s)
		}
	default:
		c.need(s, c.someType(s, 2))
	}
}

// need gives a variable of a type: one that is in scope, or a new one.
func (c *composer) need(s *scene, want api.Type) int {
	var found []int
	for _, v := range s.scope {
		if isSame(v.is, want) {
			found = append(found, v.number)
		}
	}
	if len(found) > 0 && c.below(4) > 0 {
		return found[c.below(len(found))]
	}
	return c.create(s, want)
}

func isSame(a, b api.Type) bool {
	return a.Kind == b.Kind && a.N == b.N && a.Region == b.Region && slices.Equal(a.Effect.Regions, b.Effect.Regions) &&
		slices.Equal(a.Effect.Vars, b.Effect.Vars) && slices.EqualFunc(a.Args, b.Args, isSame)
}

func (c *composer) needs(s *scene, list []api.Type) []int {
	var out []int
	for _, t := range list {
		out = append(out, c.need(s, t))
	}
	return out
}

// create makes a value of a type; where its region may not be touched an exception is raised instead.
func (c *composer) create(s *scene, t api.Type) int {
	switch t.Kind {
	case api.TInt:
		return c.number(s)
	case api.TBool:
		return c.add(s, api.Step{Op: api.OBool, Type: t, Int: int64(c.below(2))})
	case api.TUnit:
		return c.add(s, api.Step{Op: api.OPrint, Type: t, Args: []int{c.number(s)}})
	case api.TData:
		return c.con(s, t)
	}
	if t.Kind == api.TVar || !s.canTouch(t.Region) {
		return c.add(s, api.Step{Op: api.ORaise, Type: t, Code: c.below(5), Args: []int{c.number(s)}})
	}
	step := api.Step{Op: api.OTuple, Type: t, Region: t.Region}
	switch t.Kind {
	case api.TTuple:
		step.Args = c.needs(s, t.Args)
	case api.TRef:
		step.Op, step.Args = api.ORef, c.needs(s, t.Args)
	case api.TArray:
		size := c.add(s, api.Step{Op: api.OInt, Int: int64(c.below(10) % 7)})
		step.Op, step.Args = api.OArray, []int{size, c.need(s, t.Args[0])}
	case api.TArrow:
		step.Op = api.OFn
		within := s.inner(nil)
		within.room, within.live = room{s.isFlat, true, s.within(t.Effect)}, nil
		step.Blocks = []api.Block{c.block(within, t.Args[1], t.Args[0])}
	}
	return c.add(s, step)
}

// within is what of an effect may be touched here: of nothing else can a closure have handles.
func (s *scene) within(e api.Effect) api.Effect {
	return api.Effect{Regions: slices.DeleteFunc(slices.Clone(e.Regions), func(r int) bool { return !s.canTouch(r) }), Vars: e.Vars}
}

// number makes an int.
func (c *composer) number(s *scene) int {
	if c.below(2) == 0 {
		return c.add(s, api.Step{Op: api.OInt, Int: int64(c.below(5) - 1)})
	}
	zero := api.Type{}
	return c.add(s, api.Step{Op: api.OAdd + c.below(5), Args: []int{c.need(s, zero), c.need(s, zero)}})
}

// con makes a value of a data type.
func (c *composer) con(s *scene, t api.Type) int {
	step := api.Step{Op: api.OMake, Type: t, Code: c.below(len(c.Datas[t.N].Cons))}
	if !s.canTouch(t.Region) {
		step.Code = 0
	}
	fields := c.fields(t, step.Code)
	if len(fields) > 0 && !s.canTouch(t.Region) {
		return c.add(s, api.Step{Op: api.ORaise, Type: t, Code: 3, Args: []int{c.number(s)}})
	}
	if len(fields) > 0 {
		step.Args, step.Region = c.needs(s, fields), t.Region
	}
	return c.add(s, step)
}

// fields are the types of a constructor's fields.
func (c *composer) fields(t api.Type, con int) []api.Type {
	var out []api.Type
	for _, f := range c.Datas[t.N].Cons[con].Fields {
		out = append(out, standing(f, t.Args, []int{t.Region}, []api.Effect{t.Effect}))
	}
	return out
}

// standing is a type in which types, regions and effects are put in for variables, regions and effect variables.
func standing(t api.Type, types []api.Type, regions []int, effects []api.Effect) api.Type {
	switch {
	case t.Kind == api.TVar:
		return types[t.N]
	case t.Kind < api.TData:
		return t
	}
	out := api.Type{Kind: t.Kind, N: t.N, Region: regions[t.Region], Effect: together(t.Effect, regions, effects)}
	for _, a := range t.Args {
		out.Args = append(out.Args, standing(a, types, regions, effects))
	}
	return out
}

func together(e api.Effect, regions []int, effects []api.Effect) api.Effect {
	var out api.Effect
	for _, r := range e.Regions {
		out.Regions = append(out.Regions, regions[r])
	}
	for _, v := range e.Vars {
		out.Regions = append(out.Regions, effects[v].Regions...)
		out.Vars = append(out.Vars, effects[v].Vars...)
	}
	slices.Sort(out.Regions)
	slices.Sort(out.Vars)
	return api.Effect{Regions: slices.Compact(out.Regions), Vars: slices.Compact(out.Vars)}
}

// readable are the variables whose cells may be touched.
func (c *composer) readable(s *scene) []variable {
	var out []variable
	for _, v := range s.scope {
		isChoice := v.is.Kind == api.TArrow || v.is.Kind == api.TData
		if v.is.Kind >= api.TData && s.canTouch(v.is.Region) && (v.is.Kind != api.TArrow || s.canTouchAll(v.is.Effect)) && !(isChoice && c.isBare(s)) {
			out = append(out, v)
		}
	}
	return out
}

// read gets at what a variable has, or changes it.
func (c *composer) read(s *scene, v variable) {
	step := api.Step{Args: []int{v.number}}
	switch v.is.Kind {
	case api.TTuple:
		step.Op, step.Int = api.OGet, int64(c.below(len(v.is.Args)))
		step.Type = v.is.Args[step.Int]
	case api.TArrow:
		step.Op, step.Type = api.OApply, v.is.Args[1]
		step.Args = append(step.Args, c.need(s, v.is.Args[0]))
	case api.TRef:
		step.Op, step.Type = api.ODeref, v.is.Args[0]
		if c.below(2) == 0 {
			step.Op, step.Type = api.OSet, api.Type{Kind: api.TUnit}
			step.Args = append(step.Args, c.need(s, v.is.Args[0]))
		}
	case api.TArray:
		c.element(s, v, &step)
	case api.TData:
		if c.inside >= 4 {
			return
		}
		want, ends := c.someType(s, 1), c.some(s.mine)
		step.Op, step.Type = api.OCase, want
		for con := range c.Datas[v.is.N].Cons {
			step.Blocks = append(step.Blocks, c.block(s.inner(ends), want, c.fields(v.is, con)...))
		}
		s.consume(ends...)
	}
	c.add(s, step)
}

func (c *composer) element(s *scene, v variable, step *api.Step) {
	switch c.below(3) {
	case 0:
		step.Op, step.Type = api.OLen, api.Type{}
	case 1:
		step.Op, step.Type = api.OAt, v.is.Args[0]
		step.Args = append(step.Args, c.number(s))
	case 2:
		step.Op, step.Type = api.OPut, api.Type{Kind: api.TUnit}
		step.Args = append(step.Args, c.number(s), c.need(s, v.is.Args[0]))
	}
}

// choice adds an if.
func (c *composer) choice(s *scene) {
	zero := api.Type{}
	test := c.add(s, api.Step{Op: api.OEq + c.below(2), Type: api.Type{Kind: api.TBool}, Args: []int{c.need(s, zero), c.need(s, zero)}})
	want, ends := c.someType(s, 2), c.some(s.mine)
	step := api.Step{Op: api.OIf, Type: want, Args: []int{test}}
	for range 2 {
		step.Blocks = append(step.Blocks, c.block(s.inner(ends), want))
	}
	s.consume(ends...)
	c.add(s, step)
}

// handle adds a handle. What its first block does not have to consume is kept.
func (c *composer) handle(s *scene) {
	value, want := c.someType(s, 2), c.someType(s, 2)
	given := c.some(s.mine)
	step := api.Step{Op: api.OHandle, Type: want, Blocks: []api.Block{c.block(s.inner(given), value)}}
	s.consume(given...)
	step.Keep = slices.Clone(s.live)
	slices.Sort(step.Keep)
	ends := c.some(s.mine)
	step.Blocks = append(step.Blocks, c.block(s.inner(ends), want, value))
	for code := range 5 {
		if c.below(2) == 0 {
			arm := c.block(s.inner(ends), want, api.Type{})
			arm.Code = code
			step.Blocks = append(step.Blocks, arm)
		}
	}
	s.consume(ends...)
	c.add(s, step)
}

// call calls a function, at regions that may be touched; some are handed over.
func (c *composer) call(s *scene) {
	all := s.touchable()
	callees := len(c.Funs)
	if c.isStraight {
		callees-- // the last one is the one that is made
	}
	if callees == 0 {
		return
	}
	code := c.below(callees)
	f := c.Funs[code]
	if f.Regions > 0 && len(all) == 0 || c.inside > 3 {
		return
	}
	step := api.Step{Op: api.OCall, Code: code}
	for range f.Types {
		step.Types = append(step.Types, c.someType(s, 1))
	}
	for range f.Regions {
		step.Regions = append(step.Regions, all[c.below(len(all))])
	}
	for range f.Effects {
		step.Effects = append(step.Effects, c.someEffect(s))
	}
	regions := step.Regions
	if c.isFlat {
		regions = []int{0}
	}
	for _, t := range f.Params {
		step.Args = append(step.Args, c.need(s, standing(t, step.Types, regions, step.Effects)))
	}
	step.Type = standing(f.Result, step.Types, regions, step.Effects)
	for _, formal := range f.Touch.Regions {
		r := step.Regions[formal]
		mode := api.Keep
		if c.below(3) > 0 && slices.Contains(s.mine, r) && isNamedOnce(step, r) && !c.isBare(s) {
			mode = api.Last
			s.consume(r)
		}
		step.Modes = append(step.Modes, mode)
	}
	c.add(s, step)
}

// isNamedOnce tells whether a region is the actual of one formal alone, and in no effect.
func isNamedOnce(step api.Step, region int) bool {
	times := 0
	for _, r := range step.Regions {
		if r == region {
			times++
		}
	}
	return times == 1 && !slices.ContainsFunc(step.Effects, func(e api.Effect) bool { return slices.Contains(e.Regions, region) })
}
