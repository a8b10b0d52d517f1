package words

import (
	"strconv"
	"strings"

	"heriot/api"
)

// writer writes a tree, and checks it on the way. Behind the first error it writes nothing and enters nothing.
type writer struct {
	text  strings.Builder
	size  int  // bytes of the whole text, those beyond MaxText too, which are only counted
	depth int  // of the form that is open
	gap   bool // whether a space stands ahead of the next part
	err   api.Errno
}

// require keeps the first error, and tells whether there is none.
func (w *writer) require(ok bool, e api.Errno) bool {
	if !ok && w.err == api.OK {
		w.err = e
	}
	return w.err == api.OK
}

func (w *writer) put(s string) {
	w.size += len(s)
	if w.size <= api.MaxText {
		w.text.WriteString(s)
	}
}

// part writes the begin of a form or a word.
func (w *writer) part(s string) {
	if w.gap {
		w.put(" ")
	}
	w.put(s)
}

func (w *writer) open() {
	w.depth++
	if w.require(w.depth <= api.MaxDepth, api.ErrDeep) {
		w.part("(")
		w.gap = false
	}
}

func (w *writer) close() {
	w.put(")")
	w.gap = true
	w.depth--
}

func (w *writer) word(s string) {
	w.part(s)
	w.gap = true
}

func (w *writer) number(n int64) {
	w.word(strconv.FormatInt(n, 10))
}

func (w *writer) name(s string, class int) {
	if w.require(isName(s, class), api.ErrName) {
		w.word(s)
	}
}

func (w *writer) names(list []string) {
	for _, s := range list {
		w.name(s, smallName)
	}
}

func (w *writer) unit(u api.Unit) {
	w.open()
	w.word("unit")
	w.name(u.Name, smallName)
	for _, use := range u.Uses {
		w.open()
		w.word("use")
		w.name(use, smallName)
		w.close()
	}
	for _, d := range u.Decls {
		w.declaration(d)
	}
	w.close()
}

func (w *writer) declaration(d api.Decl) {
	w.open()
	if !w.require(isDeclaration(d), api.ErrForm) {
		return
	}
	switch d.Kind {
	case api.DData:
		w.word("data")
		w.data(d.Data)
	case api.DExn:
		w.word("exception")
		w.name(d.Exn, smallName)
	case api.DFuns:
		w.functions(d.Funs)
	}
	w.close()
}

// isDeclaration tells whether a declaration has the fields of its kind and no others.
func isDeclaration(d api.Decl) bool {
	noData := d.Data.Name == "" && len(d.Data.Vars) == 0 && len(d.Data.Cons) == 0
	switch d.Kind {
	case api.DData:
		return len(d.Data.Cons) > 0 && d.Exn == "" && len(d.Funs) == 0
	case api.DExn:
		return noData && len(d.Funs) == 0
	case api.DFuns:
		return noData && d.Exn == "" && len(d.Funs) > 0
	}
	return false
}

func (w *writer) data(d api.Data) {
	w.name(d.Name, smallName)
	w.open()
	w.names(d.Vars)
	w.close()
	for _, c := range d.Cons {
		w.open()
		w.name(c.Name, greatName)
		for _, t := range c.Fields {
			w.oneType(t)
		}
		w.close()
	}
}

// functions writes what stands in a declaration of functions: of one, its parts; of several, a form each.
func (w *writer) functions(list []api.FunDecl) {
	if len(list) == 1 {
		w.word("fun")
		w.function(list[0])
		return
	}
	w.word("funs")
	for _, f := range list {
		w.open()
		w.function(f)
		w.close()
	}
}

func (w *writer) function(f api.FunDecl) {
	if !w.require(isFunction(f), api.ErrForm) {
		return
	}
	w.name(f.Name, smallName)
	w.open()
	if f.Noted {
		w.noted(f)
	} else {
		w.names(f.Params)
	}
	w.close()
	if f.Noted {
		w.oneType(f.Result)
	}
	w.expression(f.Body)
}

// isFunction tells whether the types of a function are those that its notes say.
func isFunction(f api.FunDecl) bool {
	if f.Noted {
		return len(f.Types) == len(f.Params)
	}
	return len(f.Types) == 0 && isNoType(f.Result)
}

func (w *writer) noted(f api.FunDecl) {
	for i, p := range f.Params {
		w.open()
		w.name(p, smallName)
		w.oneType(f.Types[i])
		w.close()
	}
}

func (w *writer) oneType(t api.Type) {
	form := !isTypeWord(t.Kind)
	if form {
		w.open()
	}
	if !w.require(isType(t), api.ErrForm) {
		return
	}
	switch t.Kind {
	case api.TInt, api.TBool, api.TUnit:
		w.word(typeWords[t.Kind])
	case api.TVar, api.TData:
		w.name(t.Name, smallName)
	default:
		w.word(typeHeads[t.Kind])
	}
	for _, a := range t.Args {
		w.oneType(a)
	}
	if form {
		w.close()
	}
}

func isTypeWord(kind int) bool {
	return kind == api.TInt || kind == api.TBool || kind == api.TUnit || kind == api.TVar
}

// isType tells whether a type has the fields of its kind and no others.
func isType(t api.Type) bool {
	if t.Kind < api.TInt || t.Kind > api.TArray || !takesArgs(t.Kind, len(t.Args)) {
		return false
	}
	named := t.Kind == api.TVar || t.Kind == api.TData
	return (named || t.Name == "") && hasNoNumbers(t)
}

// isNoType tells whether a type is the zero value.
func isNoType(t api.Type) bool {
	return t.Kind == 0 && t.Name == "" && len(t.Args) == 0 && hasNoNumbers(t)
}

// hasNoNumbers tells whether the fields are zero that only the types of higher layers have.
func hasNoNumbers(t api.Type) bool {
	return t.N == 0 && t.Region == 0 && len(t.Effect.Regions) == 0 && len(t.Effect.Vars) == 0
}

func (w *writer) expression(e api.Expr) {
	form := !isWord(e.Kind)
	if form {
		w.open()
	}
	if !w.require(isExpression(e), api.ErrForm) {
		return
	}
	if heads[e.Kind] != "" {
		w.word(heads[e.Kind])
	}
	w.lead(e)
	for _, k := range e.Kids {
		w.expression(k)
	}
	for _, a := range e.Arms {
		w.arm(a, e.Kind)
	}
	if form {
		w.close()
	}
}

func isWord(kind int) bool {
	return kind == api.EInt || kind == api.EBool || kind == api.EUnit || kind == api.EName
}

// isExpression tells whether an expression has the fields of its kind and no others.
func isExpression(e api.Expr) bool {
	if e.Kind < api.EInt || e.Kind > api.ELess || !isNoType(e.Type) || len(e.Inst) > 0 {
		return false
	}
	if e.Kind == api.EBool && e.Int != 0 && e.Int != 1 {
		return false
	}
	s := shapeOf(e.Kind)
	fields := (s.name != noName || e.Name == "") && (s.number || e.Int == 0)
	return fields && s.takesKids(len(e.Kids)) && s.takesArms(len(e.Arms))
}

// lead writes what stands ahead of an expression's kids: a name, a number, or the word that it is.
func (w *writer) lead(e api.Expr) {
	switch e.Kind {
	case api.EInt:
		w.number(e.Int)
	case api.EBool:
		w.word(boolWord(e.Int))
	case api.EUnit:
		w.word("unit")
	case api.EGet:
		w.require(e.Int >= 0 && e.Int <= maxField, api.ErrNumber)
		w.number(e.Int)
	default:
		if s := shapeOf(e.Kind); s.name != noName {
			w.name(e.Name, s.name)
		}
	}
}

func boolWord(n int64) string {
	if n == 1 {
		return "true"
	}
	return "false"
}

func (w *writer) arm(a api.Arm, kind int) {
	w.open()
	if kind == api.EHandle {
		w.require(len(a.Vars) == 1, api.ErrForm)
		w.name(a.Name, exceptionName)
		w.names(a.Vars)
	} else {
		w.open()
		w.name(a.Name, greatName)
		w.names(a.Vars)
		w.close()
	}
	w.expression(a.Body)
	w.close()
}
