package steps

import (
	"slices"

	"heriot/api"
)

// erased is a program that is shaped without its regions.
func erased(p *api.Program) api.Program {
	out := api.Program{Exns: slices.Clone(p.Exns), Main: p.Main}
	for _, d := range p.Datas {
		own := api.Data{Name: d.Name, Vars: slices.Clone(d.Vars)}
		for _, c := range d.Cons {
			own.Cons = append(own.Cons, api.Con{Name: c.Name, Fields: bareTypes(c.Fields)})
		}
		out.Datas = append(out.Datas, own)
	}
	for i := range p.Funs {
		f := &p.Funs[i]
		out.Funs = append(out.Funs, api.Fun{Name: f.Name, Unit: f.Unit, Types: f.Types,
			Params: bareTypes(f.Params), Result: bareType(&f.Result), Body: bareBlock(&f.Body)})
	}
	return out
}

func bareType(t *api.Type) api.Type {
	return api.Type{Kind: t.Kind, N: t.N, Args: bareTypes(t.Args)}
}

func bareTypes(list []api.Type) []api.Type {
	var out []api.Type
	for i := range list {
		out = append(out, bareType(&list[i]))
	}
	return out
}

func bareBlock(b *api.Block) api.Block {
	out := api.Block{Code: b.Code, Bind: slices.Clone(b.Bind), Value: b.Value}
	for i := range b.Steps {
		s := &b.Steps[i]
		if s.Op == api.ONew || s.Op == api.OEnd {
			continue
		}
		own := api.Step{Op: s.Op, Out: s.Out, Type: bareType(&s.Type), Args: slices.Clone(s.Args), Int: s.Int, Code: s.Code, Types: bareTypes(s.Types)}
		for j := range s.Blocks {
			own.Blocks = append(own.Blocks, bareBlock(&s.Blocks[j]))
		}
		out.Steps = append(out.Steps, own)
	}
	return out
}
