package outline

import (
	"heriot/api"
)

// Callees are the functions that a function calls anywhere in its text, rising.
func Callees(f *api.Fun) []int {
	var out []int
	for _, s := range Steps(&f.Body) {
		if s.Op == api.OCall {
			out = append(out, s.Code)
		}
	}
	return setOf(out)
}

// Captures are how many variables a closure captures: those of the function around that its block uses, at all depths.
func Captures(b *api.Block) int {
	used, bound := map[int]bool{}, map[int]bool{}
	note := func(b *api.Block) {
		used[b.Value] = true
		for _, v := range b.Bind {
			bound[v] = true
		}
	}
	note(b)
	for _, s := range Steps(b) {
		bound[s.Out] = true
		for _, v := range s.Args {
			used[v] = true
		}
		for i := range s.Blocks {
			note(&s.Blocks[i])
		}
	}
	for v := range bound {
		delete(used, v)
	}
	return len(used)
}

// TypesOf are the types of a function's variables, in a program that the check of region programs takes.
func TypesOf(p *api.Program, f *api.Fun) map[int]*api.Type {
	t := typer{p, map[int]*api.Type{}}
	for i := range f.Params {
		t.types[i] = &f.Params[i]
	}
	t.block(&f.Body)
	return t.types
}

// typer knows the types of variables.
type typer struct {
	*api.Program
	types map[int]*api.Type
}

func (t typer) block(b *api.Block) {
	for i := range b.Steps {
		s := &b.Steps[i]
		t.types[s.Out] = &s.Type
		for j := range s.Blocks {
			t.binds(s, j)
			t.block(&s.Blocks[j])
		}
	}
}

// binds gives types to what a block of a step binds; the blocks ahead have theirs.
func (t typer) binds(s *api.Step, block int) {
	bind := s.Blocks[block].Bind
	switch s.Op {
	case api.OFn:
		t.types[bind[0]] = &s.Type.Args[0]
	case api.OCase:
		of := t.types[s.Args[0]]
		fields := t.Datas[of.N].Cons[block].Fields
		for k, v := range bind {
			written := At(of).Written(&fields[k])
			t.types[v] = &written
		}
	case api.OHandle:
		if block == 1 {
			t.types[bind[0]] = t.types[s.Blocks[0].Value]
		} else if block > 1 {
			t.types[bind[0]] = &api.Type{Kind: api.TInt}
		}
	}
}
