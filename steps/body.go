package steps

import (
	"slices"

	"heriot/api"
	"heriot/outline"
	"heriot/stack"
)

// body is the body of a function that is looked at.
type body struct {
	*api.Program
	fun     *api.Fun
	loose   bool                // what only says when regions are given back is passed over
	handles map[*api.Step][]int // for each OFn, the regions of which its closure captures handles
	spot    api.Spot            // where one is
	bound   map[int]bool        // the variables that are bound in the text so far
	types   map[int]*api.Type   // of the variables that are in scope
	scope   stack.Of[int]       // these variables, the innermost last
	begun   map[int]bool        // the locals whose step stands ahead
	locals  map[int]int         // the locals that are in scope, and how deep the block stands in which they begin
	regions stack.Of[int]       // these locals, the innermost last
	here    *owner
}

// checkBodies looks at the bodies of all functions of a program that is shaped.
func checkBodies(p *api.Program, loose bool) {
	for i := range p.Funs {
		f := &p.Funs[i]
		b := &body{Program: p, fun: f, loose: loose, handles: outline.Handles(p, f), spot: api.Spot{Fun: i}, bound: map[int]bool{}, types: map[int]*api.Type{},
			begun: map[int]bool{}, locals: map[int]int{}, here: ownerOf(f)}
		b.function()
	}
}

func (b *body) function() {
	var variables []int
	var types []*api.Type
	for i := range b.fun.Params {
		variables = append(variables, i)
		types = append(types, &b.fun.Params[i])
	}
	b.bind(variables)
	b.bring(variables, types)
	b.block(&b.fun.Body, &b.fun.Result, nil)
	b.require(len(b.here.live) == 0, api.ErrLeft)
}

// require ends the check, at the place where one is, where something does not hold that is asked for.
func (b *body) require(ok bool, e api.Errno) {
	if !ok && !(b.loose && isPassedOver(e)) {
		panic(refusal{e, api.Spot{Fun: b.spot.Fun, Path: slices.Clone(b.spot.Path)}})
	}
}

// isPassedOver tells whether an error only says when regions are given back: then a program can be run.
func isPassedOver(e api.Errno) bool {
	switch e {
	case api.ErrEffect, api.ErrLive, api.ErrMode, api.ErrKeep, api.ErrLeft, api.ErrJoin:
		return true
	}
	return false
}

// into goes to a step of the block, or to a block of the step, where one is.
func (b *body) into(number int) { b.spot.Path = append(b.spot.Path, number) }

func (b *body) back() { b.spot.Path = b.spot.Path[:len(b.spot.Path)-1] }

// bind binds variables, none of which may be bound ahead in the text.
func (b *body) bind(variables []int) {
	for _, v := range variables {
		b.require(!b.bound[v], api.ErrScope)
		b.bound[v] = true
	}
}

// bring brings variables into scope.
func (b *body) bring(variables []int, types []*api.Type) {
	for i, v := range variables {
		b.types[v] = types[i]
		b.scope.Push(v)
	}
}

// typeOf asks a variable to be in scope.
func (b *body) typeOf(v int) *api.Type {
	t, ok := b.types[v]
	b.require(ok, api.ErrScope)
	return t
}

// block looks at a block, up to whether its value has a type, if one is asked for; and gives the type that it has.
func (b *body) block(in *api.Block, want *api.Type, binds []*api.Type) *api.Type {
	variables, regions := len(b.scope), len(b.regions)
	b.bring(in.Bind, binds)
	for i := range in.Steps {
		b.into(i)
		b.step(&in.Steps[i])
		b.back()
	}
	t := b.typeOf(in.Value)
	b.require(!b.isOfHere(t), api.ErrResult)
	b.require(want == nil || outline.AreSame(t, want), api.ErrType)
	for len(b.scope) > variables {
		delete(b.types, b.scope.Pop())
	}
	for len(b.regions) > regions {
		delete(b.locals, b.regions.Pop())
	}
	return t
}

// isOfHere tells whether a type mentions a region that begins in the block where one is.
func (b *body) isOfHere(t *api.Type) bool {
	if outline.HasRegion(t.Kind) && b.isBegunHere(t.Region) || slices.ContainsFunc(t.Effect.Regions, b.isBegunHere) {
		return true
	}
	for i := range t.Args {
		if b.isOfHere(&t.Args[i]) {
			return true
		}
	}
	return false
}

func (b *body) isBegunHere(region int) bool {
	depth, ok := b.locals[region]
	return ok && depth == len(b.spot.Path)
}

// step looks at a step, and then at its blocks.
func (b *body) step(s *api.Step) {
	args := b.scoped(s)
	b.require(b.isTyped(s, args), api.ErrType)
	binds := b.bindsOf(s, args)
	b.checkRegions(s, args)
	switch s.Op {
	case api.OFn:
		b.lambda(s, binds[0])
	case api.OIf, api.OCase:
		b.branches(s, s.Blocks, binds)
	case api.OHandle:
		b.handle(s)
	case api.ONew:
		b.begin(s.Region)
	}
	if s.Op < api.ONew {
		b.bring([]int{s.Out}, []*api.Type{&s.Type})
	}
}

// begin brings a region into scope.
func (b *body) begin(region int) {
	b.here.live[region] = true
	b.locals[region] = len(b.spot.Path) - 1
	b.regions.Push(region)
}
