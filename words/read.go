package words

import (
	"strconv"

	"heriot/api"
)

// requireParts refuses a form that has not so many parts (a word has none).
func requireParts(form part, least, most int) {
	n := len(form.parts)
	require(n >= least && n <= most, api.ErrForm, form.at)
}

// firstWord is the word that says which form it is.
func firstWord(form part) part {
	require(len(form.parts) > 0, api.ErrForm, form.at)
	head := form.parts[0]
	require(!head.isForm(), api.ErrForm, head.at)
	return head
}

func readName(p part, class int) string {
	require(!p.isForm(), api.ErrForm, p.at)
	require(isName(p.word, class), api.ErrName, p.at)
	return p.word
}

func readNames(parts []part) []string {
	var names []string
	for _, p := range parts {
		names = append(names, readName(p, smallName))
	}
	return names
}

// readList gives the parts of a form that may have any number.
func readList(p part) []part {
	require(p.isForm(), api.ErrForm, p.at)
	return p.parts
}

// readNumber reads a word that is like a number; there is one way to write each.
func readNumber(p part) int64 {
	n, err := strconv.ParseInt(p.word, 10, 64)
	require(err == nil && strconv.FormatInt(n, 10) == p.word, api.ErrNumber, p.at)
	return n
}

func isLikeNumber(word string) bool {
	return word[0] >= '0' && word[0] <= '9' || word[0] == '-' && len(word) > 1 && word != "->"
}

func readUnit(form part) api.Unit {
	head := firstWord(form)
	require(head.word == "unit", api.ErrForm, head.at)
	require(len(form.parts) >= 2, api.ErrForm, form.at)
	unit := api.Unit{Name: readName(form.parts[1], smallName)}
	for _, p := range form.parts[2:] {
		if firstWord(p).word == "use" && len(unit.Decls) == 0 {
			requireParts(p, 2, 2)
			unit.Uses = append(unit.Uses, readName(p.parts[1], smallName))
		} else {
			unit.Decls = append(unit.Decls, readDeclaration(p))
		}
	}
	return unit
}

func readDeclaration(form part) api.Decl {
	d := api.Decl{At: form.at}
	head := firstWord(form)
	switch head.word {
	case "data":
		d.Kind = api.DData
		d.Data = readData(form)
	case "exception":
		requireParts(form, 2, 2)
		d.Kind = api.DExn
		d.Exn = readName(form.parts[1], smallName)
	case "fun":
		d.Kind = api.DFuns
		d.Funs = []api.FunDecl{readFunction(form, form.parts[1:])}
	case "funs":
		require(len(form.parts) >= 3, api.ErrForm, form.at)
		d.Kind = api.DFuns
		for _, f := range form.parts[1:] {
			d.Funs = append(d.Funs, readFunction(f, readList(f)))
		}
	default:
		refuse(api.ErrForm, head.at)
	}
	return d
}

func readData(form part) api.Data {
	require(len(form.parts) >= 4, api.ErrForm, form.at)
	d := api.Data{Name: readName(form.parts[1], smallName)}
	d.Vars = readNames(readList(form.parts[2]))
	for _, p := range form.parts[3:] {
		require(len(p.parts) > 0, api.ErrForm, p.at)
		con := api.Con{Name: readName(p.parts[0], greatName)}
		for _, t := range p.parts[1:] {
			con.Fields = append(con.Fields, readType(t))
		}
		d.Cons = append(d.Cons, con)
	}
	return d
}

// readFunction reads a function from its parts behind the word fun, in a form at which a wrong number of them is refused.
func readFunction(form part, parts []part) api.FunDecl {
	require(len(parts) == 3 || len(parts) == 4, api.ErrForm, form.at)
	f := api.FunDecl{At: parts[0].at, Noted: len(parts) == 4}
	f.Name = readName(parts[0], smallName)
	params := readList(parts[1])
	if len(params) > 0 {
		require(params[0].isForm() == f.Noted, api.ErrForm, form.at)
	}
	if f.Noted {
		readNoted(&f, params)
		f.Result = readType(parts[2])
	} else {
		f.Params = readNames(params)
	}
	f.Body = readExpression(parts[len(parts)-1])
	return f
}

func readNoted(f *api.FunDecl, params []part) {
	for _, p := range params {
		requireParts(p, 2, 2)
		f.Params = append(f.Params, readName(p.parts[0], smallName))
		f.Types = append(f.Types, readType(p.parts[1]))
	}
}

func readType(p part) api.Type {
	if !p.isForm() {
		return readTypeWord(p)
	}
	t := typeOf(firstWord(p))
	args := p.parts[1:]
	require(takesArgs(t.Kind, len(args)), api.ErrForm, p.at)
	for _, a := range args {
		t.Args = append(t.Args, readType(a))
	}
	return t
}

func readTypeWord(p part) api.Type {
	for kind, word := range typeWords {
		if word == p.word {
			return api.Type{Kind: kind}
		}
	}
	return api.Type{Kind: api.TVar, Name: readName(p, smallName)}
}

// typeOf is the type whose form begins with a word, without its parts.
func typeOf(head part) api.Type {
	for kind, word := range typeHeads {
		if word == head.word {
			return api.Type{Kind: kind}
		}
	}
	return api.Type{Kind: api.TData, Name: readName(head, smallName)}
}

func readExpression(p part) api.Expr {
	if !p.isForm() {
		return readWord(p)
	}
	e := api.Expr{Kind: kindOf(firstWord(p)), At: p.at}
	s := shapeOf(e.Kind)
	rest := p.parts
	if heads[e.Kind] != "" {
		rest = rest[1:]
	}
	require(s.takesParts(len(rest)), api.ErrForm, p.at)
	if s.number {
		e.Int = readField(rest[0])
	}
	if s.name != noName {
		e.Name = readName(rest[0], s.name)
	}
	rest = rest[s.lead():]
	kids := s.kids
	if s.more {
		kids = len(rest)
	}
	for _, k := range rest[:kids] {
		e.Kids = append(e.Kids, readExpression(k))
	}
	for _, a := range rest[kids:] {
		e.Arms = append(e.Arms, readArm(a, e.Kind))
	}
	return e
}

// readWord reads an expression that is a word.
func readWord(p part) api.Expr {
	e := api.Expr{At: p.at}
	switch {
	case isLikeNumber(p.word):
		e.Kind, e.Int = api.EInt, readNumber(p)
	case p.word == "true":
		e.Int = 1
		fallthrough
	case p.word == "false":
		e.Kind = api.EBool
	case p.word == "unit":
		e.Kind = api.EUnit
	default:
		e.Kind, e.Name = api.EName, readName(p, smallName)
	}
	return e
}

// kindOf is the kind of the expressions whose forms begin with a word.
func kindOf(head part) int {
	for kind, word := range heads {
		if word == head.word {
			return kind
		}
	}
	require(!isKept(head.word), api.ErrForm, head.at)
	if isName(head.word, greatName) {
		return api.EMake
	}
	require(isName(head.word, smallName), api.ErrName, head.at)
	return api.ECall
}

// readField reads the number of a part of a tuple.
func readField(p part) int64 {
	require(!p.isForm(), api.ErrForm, p.at)
	n := readNumber(p)
	require(n >= 0 && n <= maxField, api.ErrNumber, p.at)
	return n
}

func readArm(form part, kind int) api.Arm {
	if kind == api.EHandle {
		requireParts(form, 3, 3)
		arm := api.Arm{Name: readName(form.parts[0], exceptionName)}
		arm.Vars = readNames(form.parts[1:2])
		arm.Body = readExpression(form.parts[2])
		return arm
	}
	requireParts(form, 2, 2)
	pattern := form.parts[0]
	require(len(pattern.parts) > 0, api.ErrForm, pattern.at)
	arm := api.Arm{Name: readName(pattern.parts[0], greatName)}
	arm.Vars = readNames(pattern.parts[1:])
	arm.Body = readExpression(form.parts[1])
	return arm
}
