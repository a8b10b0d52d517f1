package types

import (
	"heriot/api"
	"heriot/words"
)

// The kinds of declarations: the names of each kind are a space of their own.
const (
	aUnit = iota
	aData
	aCon
	anExn
	aFun
)

// name is a name in its space.
type name struct {
	kind int
	text string
}

// place says where something is declared: in which unit, and its number in the program. A constructor has the number of its data type, and its own one there.
type place struct {
	unit   int
	number int
	con    int
}

// everywhere is the unit of what every unit sees.
const everywhere = -1

// builtIn are the exceptions that every program has.
var builtIn = [...]string{"Div", "Index", "Size"}

// names says where the names of a program are declared.
type names map[name]place

// declare tells whether a name was free, and takes it.
func (n names) declare(kind int, text string, at place) bool {
	key := name{kind, text}
	if _, taken := n[key]; taken {
		return false
	}
	n[key] = at
	return true
}

func (n names) declared(kind int, text string) (place, bool) {
	at, ok := n[name{kind, text}]
	return at, ok
}

// areDifferent tells whether no name stands twice in a list.
func areDifferent(list []string) bool {
	ahead := map[string]bool{}
	for _, s := range list {
		if ahead[s] {
			return false
		}
		ahead[s] = true
	}
	return true
}

// isSmall tells whether a text is a small name. Which texts are names is known to package words alone, so that a unit is asked for that has it.
func isSmall(text string) bool {
	return words.Valid(api.Unit{Name: text}) == api.OK
}

// isGreat tells whether a text is a great name.
func isGreat(text string) bool {
	data := api.Data{Name: "d", Cons: []api.Con{{Name: text}}}
	return words.Valid(api.Unit{Name: "u", Decls: []api.Decl{{Kind: api.DData, Data: data}}}) == api.OK
}

// isShaped tells whether an expression is as the grammar says, whatever its kids and its arms' bodies are.
func isShaped(e api.Expr) bool {
	alone := api.Expr{Kind: e.Kind, Int: e.Int, Name: e.Name, Kids: make([]api.Expr, len(e.Kids))}
	for _, a := range e.Arms {
		alone.Arms = append(alone.Arms, api.Arm{Name: a.Name, Vars: a.Vars})
	}
	f := api.FunDecl{Name: "f", Body: alone}
	said := words.Valid(api.Unit{Name: "u", Decls: []api.Decl{{Kind: api.DFuns, Funs: []api.FunDecl{f}}}})
	// An expression has no text of its own whose length could count.
	return said == api.OK || said == api.ErrBig
}
