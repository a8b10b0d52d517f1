package types

import "heriot/api"

func basic(kind int) api.Type { return api.Type{Kind: kind} }

func variable(n int) api.Type { return api.Type{Kind: api.TVar, N: n} }

// variables are the first so many type variables.
func variables(count int) []api.Type {
	var out []api.Type
	for i := range count {
		out = append(out, variable(i))
	}
	return out
}

func compound(kind int, args ...api.Type) api.Type { return api.Type{Kind: kind, Args: args} }

// schemeFor is the scheme of what takes some types and gives a result.
func schemeFor(vars int, result api.Type, params ...api.Type) api.Scheme {
	return api.Scheme{Vars: vars, Params: params, Result: result}
}

// ruleOf gives the rule of an expression whose kids are all in its own scope, as the scheme of a function that would take them: its variables are the fresh types. Names, calls and parts of tuples have no such rule.
func ruleOf(e api.Expr) (api.Scheme, bool) {
	integer, boolean, unit := basic(api.TInt), basic(api.TBool), basic(api.TUnit)
	a, b := variable(0), variable(1)
	switch e.Kind {
	case api.EInt:
		return schemeFor(0, integer), true
	case api.EBool:
		return schemeFor(0, boolean), true
	case api.EUnit:
		return schemeFor(0, unit), true
	case api.ETuple:
		parts := variables(len(e.Kids))
		return schemeFor(len(parts), compound(api.TTuple, parts...), parts...), true
	case api.EIf:
		return schemeFor(1, a, boolean, a, a), true
	case api.EApply:
		return schemeFor(2, b, compound(api.TArrow, a, b), a), true
	case api.ERef:
		return schemeFor(1, compound(api.TRef, a), a), true
	case api.EDeref:
		return schemeFor(1, a, compound(api.TRef, a)), true
	case api.ESet:
		return schemeFor(1, unit, compound(api.TRef, a), a), true
	case api.EArray:
		return schemeFor(1, compound(api.TArray, a), integer, a), true
	case api.EAt:
		return schemeFor(1, a, compound(api.TArray, a), integer), true
	case api.EPut:
		return schemeFor(1, unit, compound(api.TArray, a), integer, a), true
	case api.ELen:
		return schemeFor(1, integer, compound(api.TArray, a)), true
	case api.ERaise:
		return schemeFor(1, a, integer), true
	case api.EPrint:
		return schemeFor(0, unit, integer), true
	case api.ESeq:
		return schemeFor(2, b, a, b), true
	case api.EAdd, api.ESub, api.EMul, api.EDiv, api.EMod:
		return schemeFor(0, integer, integer, integer), true
	case api.EEq, api.ELess:
		return schemeFor(0, boolean, integer, integer), true
	}
	return api.Scheme{}, false
}

// conRule is a constructor as the scheme of a function that takes its fields.
func conRule(datas []api.Data, at place) api.Scheme {
	data := datas[at.number]
	result := api.Type{Kind: api.TData, N: at.number, Args: variables(len(data.Vars))}
	return schemeFor(len(data.Vars), result, data.Cons[at.con].Fields...)
}
