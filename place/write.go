package place

import (
	"slices"

	"heriot/api"
	"heriot/outline"
)

// sorted are the numbers of regions, rising.
func (f *function) sorted(regions []int) []int {
	var out []int
	for _, r := range regions {
		out = append(out, f.numbers[r])
	}
	slices.Sort(out)
	return out
}

// count counts the numbers of lists that are written.
func (f *function) count(more int) {
	f.written += more
	require(f.written <= api.MaxNodes, api.ErrBig)
}

func (f *function) effect(regions, variables set) api.Effect {
	var e api.Effect
	for r := range regions.all() {
		e.Regions = append(e.Regions, f.numbers[r])
	}
	for v := range variables.all() {
		e.Vars = append(e.Vars, f.variableOf[v])
	}
	slices.Sort(e.Regions)
	slices.Sort(e.Vars)
	e.Vars = slices.Compact(e.Vars)
	f.count(len(e.Regions) + len(e.Vars))
	return e
}

func (f *function) typed(t *dressed) api.Type {
	out := api.Type{Kind: t.kind, N: t.n}
	if outline.HasRegion(t.kind) {
		out.Region = f.numbers[f.regionAt[t.region]]
	}
	if outline.HasEffect(t.kind) {
		h := f.holderOf(t)
		out.Effect = f.effect(h.regions, h.variables)
	}
	out.Args = f.allTyped(t.parts)
	return out
}

func (f *function) allTyped(list []*dressed) []api.Type {
	var out []api.Type
	for _, t := range list {
		out = append(out, f.typed(t))
	}
	return out
}

// touchedFormals are the formals that a function touches.
func (f *function) touchedFormals() []int {
	var out []int
	for r := range f.formalsOf(f.holders[f.body.room.touched].regions).all() {
		out = append(out, r)
	}
	return out
}

// writeHead writes the signature of a function.
func (f *function) writeHead() {
	f.order()
	f.out = &api.Fun{Name: f.flat.Name, Unit: f.flat.Unit, Types: f.flat.Types, Regions: len(f.formals), Effects: len(f.variables)}
	f.out.Touch = f.effect(setOf(f.touchedFormals()...), f.holders[f.body.room.touched].variables)
	f.out.Params = f.allTyped(f.params)
	f.out.Result = f.typed(f.result)
	f.sign = signatureOf(f.out)
}

// writeBody writes the body of a function when the signatures of all its callees are written.
func (f *function) writeBody() {
	f.each(f.lookAt)
	f.beginLocals()
	f.giveAllBack()
	f.out.Body, _ = f.block(f.body, setOf(f.touchedFormals()...))
}

// block writes a block at whose begin some regions are live, and gives those that are so at its end.
func (f *function) block(b *block, live set) (api.Block, set) {
	live = live.without(nil)
	out := api.Block{Code: b.text.Code, Bind: slices.Clone(b.text.Bind), Value: b.text.Value}
	for i := 0; ; i++ {
		out.Steps = append(out.Steps, f.regionSteps(b, i, live)...)
		for _, r := range b.ends[i] {
			live.drop(r)
		}
		for _, r := range b.begins[i] {
			if !b.unused[r] {
				live.add(r)
			}
		}
		if i == len(b.steps) {
			return out, live
		}
		var s api.Step
		s, live = f.step(b.steps[i], live)
		out.Steps = append(out.Steps, s)
	}
}

// regionSteps are the steps at a place of a block that end and begin regions.
func (f *function) regionSteps(b *block, at int, live set) []api.Step {
	var out []api.Step
	for _, r := range f.sorted(b.ends[at]) {
		out = append(out, api.Step{Op: api.OEnd, Out: -1, Region: r})
	}
	for _, r := range b.begins[at] {
		out = append(out, api.Step{Op: api.ONew, Out: -1, Region: f.numbers[r]})
		if b.unused[r] {
			out = append(out, api.Step{Op: api.OEnd, Out: -1, Region: f.numbers[r]})
		}
	}
	return out
}

// step writes a step ahead of which some regions are live, and gives those that are so behind it.
func (f *function) step(s *step, live set) (api.Step, set) {
	out := api.Step{Op: s.Op, Out: s.Out, Type: f.typed(s.typ), Args: slices.Clone(s.Args), Int: s.Int, Code: s.Code, Types: f.allTyped(s.types)}
	if outline.Needs(s.Step) {
		out.Region = out.Type.Region
	}
	switch s.Op {
	case api.OCall:
		return out, f.callStep(s.call, &out, live)
	case api.OFn:
		inner, _ := f.block(s.blocks[0], nil)
		out.Blocks = []api.Block{inner}
	case api.OIf, api.OCase:
		live = f.branches(&out, s.blocks, live)
	case api.OHandle:
		first, kept := f.block(s.blocks[0], live)
		out.Blocks = []api.Block{first}
		for r := range kept.all() {
			out.Keep = append(out.Keep, f.numbers[r])
		}
		slices.Sort(out.Keep)
		f.count(len(out.Keep))
		live = f.branches(&out, s.blocks[1:], kept)
	}
	return out, live
}

// branches writes blocks of a step, of which one is run, and gives what is live behind it.
func (f *function) branches(out *api.Step, blocks []*block, live set) set {
	end := live
	for _, b := range blocks {
		var text api.Block
		text, end = f.block(b, live)
		out.Blocks = append(out.Blocks, text)
	}
	return end
}

func (f *function) callStep(c *call, out *api.Step, live set) set {
	live = live.without(nil)
	for _, r := range c.actuals {
		out.Regions = append(out.Regions, f.numbers[r])
	}
	for e := range c.effects {
		out.Effects = append(out.Effects, f.effect(c.effect(e)))
	}
	for k, r := range c.done.Touch.Regions {
		mode := api.Keep
		if c.last[k] {
			mode = api.Last
			live.drop(c.actuals[r])
		}
		out.Modes = append(out.Modes, mode)
	}
	f.count(len(out.Regions) + len(out.Modes))
	return live
}
