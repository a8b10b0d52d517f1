package flat

import (
	"heriot/api"
	"heriot/outline"
	"heriot/stack"
)

// body is the body of a function that is looked at.
type body struct {
	checker
	fun   *api.Fun
	bound map[int]bool      // the variables that are bound in the text so far
	types map[int]*api.Type // the types of those that are in scope
	scope stack.Of[int]     // those that are in scope, the innermost last
}

func (c checker) checkBody(f *api.Fun) {
	b := &body{checker: c, fun: f, bound: map[int]bool{}, types: map[int]*api.Type{}}
	for i := range f.Params {
		b.take(i)
		b.bring(i, &f.Params[i])
	}
	b.block(&f.Body, &f.Result)
}

// take requires that a number is one of a variable, and that no variable ahead has it.
func (b *body) take(v int) {
	require(v >= 0 && v < api.MaxNodes && !b.bound[v])
	b.bound[v] = true
}

// bring brings a variable into scope.
func (b *body) bring(v int, t *api.Type) {
	b.types[v] = t
	b.scope.Push(v)
}

// typeOf requires that a variable is in scope.
func (b *body) typeOf(v int) *api.Type {
	t, ok := b.types[v]
	require(ok)
	return t
}

func (b *body) typesOf(variables []int) []*api.Type {
	var out []*api.Type
	for _, v := range variables {
		out = append(out, b.typeOf(v))
	}
	return out
}

func (b *body) isTypeHere(t *api.Type) bool { return b.isType(t, b.fun.Types, len(b.Datas)) }

// block looks at a block whose value has to have a type, and which is no handler's arm.
func (b *body) block(in *api.Block, want *api.Type, binds ...*api.Type) {
	require(in.Code == 0)
	require(areSame(b.inside(in, binds), want))
}

// inside looks at what a block has, and gives the type of its value.
func (b *body) inside(in *api.Block, binds []*api.Type) *api.Type {
	outside := len(b.scope)
	require(len(in.Bind) == len(binds))
	for i, v := range in.Bind {
		b.take(v)
		b.bring(v, binds[i])
	}
	for i := range in.Steps {
		b.step(&in.Steps[i])
	}
	t := b.typeOf(in.Value)
	for len(b.scope) > outside {
		delete(b.types, b.scope.Pop())
	}
	return t
}

// step looks at a step, and then at its blocks.
func (b *body) step(s *api.Step) {
	require(isShaped(s) && b.isTypeHere(&s.Type))
	args := b.typesOf(s.Args)
	require(b.isRight(s, args))
	b.take(s.Out)
	switch s.Op {
	case api.OFn:
		b.block(&s.Blocks[0], &s.Type.Args[1], &s.Type.Args[0])
	case api.OIf:
		b.block(&s.Blocks[0], &s.Type)
		b.block(&s.Blocks[1], &s.Type)
	case api.OCase:
		b.cases(s, args[0])
	case api.OHandle:
		b.handle(s)
	}
	b.bring(s.Out, &s.Type)
}

// cases makes the types of what all blocks of a case bind ahead of looking at the blocks, so that no type is put into one that is too large.
func (b *body) cases(s *api.Step, t *api.Type) {
	var binds [][]*api.Type
	for _, con := range b.Datas[t.N].Cons {
		var own []*api.Type
		for i := range con.Fields {
			field := instance(&con.Fields[i], t.Args)
			if outline.IsTooLarge(&field) {
				panic(api.ErrBig)
			}
			own = append(own, &field)
		}
		binds = append(binds, own)
	}
	for i := range s.Blocks {
		b.block(&s.Blocks[i], &s.Type, binds[i]...)
	}
}

func (b *body) handle(s *api.Step) {
	require(s.Blocks[0].Code == 0)
	value := b.inside(&s.Blocks[0], nil)
	b.block(&s.Blocks[1], &s.Type, value)
	payload := api.Type{Kind: api.TInt}
	for i := range s.Blocks[2:] {
		require(areSame(b.inside(&s.Blocks[2+i], []*api.Type{&payload}), &s.Type))
	}
}
