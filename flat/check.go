package flat

import (
	"heriot/api"
	"heriot/outline"
)

// checker looks at a program as plain data; its checks end by a panic with the first error.
type checker struct{ *api.Program }

func check(p *api.Program) {
	if outline.IsBig(p) {
		panic(api.ErrBig)
	}
	c := checker{p}
	c.checkDatas()
	require(outline.HasOwnExns(c.Exns))
	c.checkFuns()
	c.checkMain()
	for i := range p.Funs {
		c.checkBody(&p.Funs[i])
	}
}

func (c checker) checkDatas() {
	for i, d := range c.Datas {
		require(len(d.Cons) > 0)
		for _, con := range d.Cons {
			require(c.areTypes(con.Fields, len(d.Vars), i+1))
		}
	}
}

func (c checker) checkFuns() {
	for i := range c.Funs {
		f := &c.Funs[i]
		require(f.Types >= 0 && f.Types <= api.MaxNodes)
		require(f.Regions == 0 && f.Effects == 0 && isNothing(f.Touch))
		require(c.areTypes(f.Params, f.Types, len(c.Datas)) && c.isType(&f.Result, f.Types, len(c.Datas)))
	}
}

func (c checker) checkMain() {
	require(c.Main >= 0 && c.Main < len(c.Funs))
	main := &c.Funs[c.Main]
	require(main.Types == 0 && len(main.Params) <= api.MaxArgs && main.Result.Kind == api.TInt)
	for _, p := range main.Params {
		require(p.Kind == api.TInt)
	}
}

func isNothing(e api.Effect) bool { return len(e.Regions) == 0 && len(e.Vars) == 0 }

// isType tells whether a type is one for so many type variables and the first data types.
func (c checker) isType(t *api.Type, vars, datas int) bool {
	return t.Region == 0 && isNothing(t.Effect) && outline.HasParts(t, c.Datas[:datas]) &&
		(t.Kind != api.TVar || t.N < vars) && c.areTypes(t.Args, vars, datas)
}

func (c checker) areTypes(list []api.Type, vars, datas int) bool {
	for i := range list {
		if !c.isType(&list[i], vars, datas) {
			return false
		}
	}
	return true
}

// isShaped tells whether a step has the fields of its operation, which is one of flat programs, and no others.
func isShaped(s *api.Step) bool {
	return outline.IsShaped(s) && s.Op < api.ONew && s.Region == 0 &&
		len(s.Regions) == 0 && len(s.Effects) == 0 && len(s.Modes) == 0 && len(s.Keep) == 0
}
