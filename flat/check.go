package flat

import "heriot/api"

// checker looks at a program as plain data; its checks end by a panic with the first error.
type checker struct{ *api.Program }

func check(p *api.Program) {
	if isBig(p) {
		panic(api.ErrBig)
	}
	c := checker{p}
	c.checkDatas()
	c.checkExns()
	c.checkFuns()
	c.checkMain()
	for i := range p.Funs {
		c.checkBody(&p.Funs[i])
	}
}

func (c checker) checkDatas() {
	for i, d := range c.Datas {
		require(len(d.Cons) > 0)
		for _, con := range d.Cons {
			require(c.areTypes(con.Fields, len(d.Vars), i+1))
		}
	}
}

func (c checker) checkExns() {
	require(len(c.Exns) >= 3)
	require(c.Exns[codeDiv] == "Div" && c.Exns[codeIndex] == "Index" && c.Exns[codeSize] == "Size")
}

func (c checker) checkFuns() {
	for i := range c.Funs {
		f := &c.Funs[i]
		require(f.Types >= 0 && f.Types <= api.MaxNodes)
		require(f.Regions == 0 && f.Effects == 0 && isNothing(f.Touch))
		require(c.areTypes(f.Params, f.Types, len(c.Datas)) && c.isType(&f.Result, f.Types, len(c.Datas)))
	}
}

func (c checker) checkMain() {
	require(c.Main >= 0 && c.Main < len(c.Funs))
	main := &c.Funs[c.Main]
	require(main.Types == 0 && len(main.Params) <= api.MaxArgs && main.Result.Kind == api.TInt)
	for _, p := range main.Params {
		require(p.Kind == api.TInt)
	}
}

func isNothing(e api.Effect) bool { return len(e.Regions) == 0 && len(e.Vars) == 0 }

// isType tells whether a type is one for so many type variables and the first data types.
func (c checker) isType(t *api.Type, vars, datas int) bool {
	bare := t.Name == "" && t.Region == 0 && isNothing(t.Effect)
	return bare && isNumbered(t, vars, datas) && c.takesArgs(t) && c.areTypes(t.Args, vars, datas)
}

func (c checker) areTypes(list []api.Type, vars, datas int) bool {
	for i := range list {
		if !c.isType(&list[i], vars, datas) {
			return false
		}
	}
	return true
}

func isNumbered(t *api.Type, vars, datas int) bool {
	switch t.Kind {
	case api.TVar:
		return t.N >= 0 && t.N < vars
	case api.TData:
		return t.N >= 0 && t.N < datas
	}
	return t.N == 0
}

// takesArgs tells whether the kind of a type is one, and whether it has as many parts as that has.
func (c checker) takesArgs(t *api.Type) bool {
	switch t.Kind {
	case api.TInt, api.TBool, api.TUnit, api.TVar:
		return len(t.Args) == 0
	case api.TData:
		return len(t.Args) == len(c.Datas[t.N].Vars)
	case api.TTuple:
		return len(t.Args) >= 2
	case api.TArrow:
		return len(t.Args) == 2
	case api.TRef, api.TArray:
		return len(t.Args) == 1
	}
	return false
}
