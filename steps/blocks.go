package steps

import (
	"maps"
	"slices"

	"heriot/api"
	"heriot/outline"
)

// lambda looks at the block of a lambda, in which nothing is live at its begin.
func (b *body) lambda(s *api.Step, bind []*api.Type) {
	around := b.here
	b.here = lambdaOf(s, b.fun.Regions)
	b.into(0)
	b.block(&s.Blocks[0], &s.Type.Args[1], bind)
	b.require(len(b.here.live) == 0, api.ErrLeft)
	b.back()
	b.here = around
}

// branches looks at blocks of a step, the last ones, of which one is run: each begins with what is live, and all end with the same.
func (b *body) branches(s *api.Step, blocks []api.Block, binds [][]*api.Type) {
	begin, first := b.here.live, len(s.Blocks)-len(blocks)
	var end map[int]bool
	isSame := true
	for i := range blocks {
		b.here.live = maps.Clone(begin)
		b.into(first + i)
		b.block(&blocks[i], &s.Type, binds[i])
		b.back()
		isSame = isSame && (i == 0 || maps.Equal(b.here.live, end))
		end = b.here.live
	}
	b.require(isSame, api.ErrJoin)
}

// handle looks at the blocks of a handle: the first one may be left at any place, so that the others begin with what it keeps.
func (b *body) handle(s *api.Step) {
	b.here.keeps.Push(s.Keep)
	b.into(0)
	value := b.block(&s.Blocks[0], nil, nil)
	b.require(slices.Equal(outline.Sorted(b.here.live), s.Keep), api.ErrKeep)
	b.back()
	b.here.keeps.Pop()
	b.here.live = map[int]bool{}
	for _, r := range s.Keep {
		b.here.live[r] = true
	}
	binds := [][]*api.Type{{value}}
	for range s.Blocks[2:] {
		binds = append(binds, []*api.Type{{Kind: api.TInt}})
	}
	b.branches(s, s.Blocks[1:], binds)
}
