package words

import "heriot/api"

// The classes of names: which words they may be.
const (
	noName = iota
	smallName
	greatName
	exceptionName
)

const (
	maxName  = 32  // bytes of a name
	maxField = 999 // of a tuple, in get
)

// heads are the words at which the forms of expressions begin, by their kinds. A word and a form that begins with a name have none.
var heads = [...]string{
	api.ETuple: "tuple", api.EGet: "get", api.ELet: "let", api.EIf: "if", api.ECase: "case", api.EFn: "fn", api.EApply: "call",
	api.ERef: "ref", api.EDeref: "deref", api.ESet: "set", api.EArray: "array", api.EAt: "at", api.EPut: "put", api.ELen: "len",
	api.ERaise: "raise", api.EHandle: "handle", api.EPrint: "print", api.ESeq: "seq",
	api.EAdd: "+", api.ESub: "-", api.EMul: "*", api.EDiv: "/", api.EMod: "%", api.EEq: "=", api.ELess: "<",
}

// typeWords are the types that are a word of their own.
var typeWords = [...]string{api.TInt: "int", api.TBool: "bool", api.TUnit: "unit"}

// typeHeads are the words at which the forms of types begin.
var typeHeads = [...]string{api.TTuple: "*", api.TArrow: "->", api.TRef: "ref", api.TArray: "array"}

// isName tells whether a word is a name of a class.
func isName(word string, class int) bool {
	switch class {
	case exceptionName:
		if word == "Div" || word == "Index" || word == "Size" {
			return true
		}
		fallthrough
	case smallName:
		return isSpelled(word) && word[0] >= 'a' && word[0] <= 'z' && !isKept(word)
	case greatName:
		return isSpelled(word) && word[0] >= 'A' && word[0] <= 'Z'
	}
	return false
}

// isSpelled tells whether a word has the length and the letters of a name, but for its first one.
func isSpelled(word string) bool {
	for _, r := range word {
		if r != '_' && (r < '0' || r > '9') && (r < 'a' || r > 'z') && (r < 'A' || r > 'Z') {
			return false
		}
	}
	return word != "" && len(word) <= maxName
}

func isKept(word string) bool {
	switch word {
	case "unit", "use", "data", "exception", "fun", "funs", "true", "false", "int", "bool",
		"tuple", "get", "let", "if", "case", "fn", "call", "ref", "deref", "set", "array", "at", "put", "len", "raise", "handle", "print", "seq":
		return true
	}
	return false
}

// shape is what the grammar says of the expressions of one kind, in the order in which their parts are written.
type shape struct {
	name      int  // the class of their name
	number    bool // whether they have an Int
	kids      int  // how many kids they have
	more      bool // whether more kids may follow
	arms      bool // whether arms follow
	leastArms int
}

// shapeOf gives the shape of a kind that is one.
func shapeOf(kind int) shape {
	s := shape{kids: kidsOf(kind)}
	switch kind {
	case api.EInt, api.EBool, api.EGet:
		s.number = true
	case api.ECall:
		s.more = true
		fallthrough
	case api.EName, api.ELet, api.EFn:
		s.name = smallName
	case api.EMake:
		s.name, s.more = greatName, true
	case api.ETuple:
		s.more = true
	case api.ECase:
		s.leastArms = 1
		fallthrough
	case api.EHandle:
		s.arms = true
	case api.ERaise:
		s.name = exceptionName
	}
	return s
}

// kidsOf is how many kids an expression of a kind has at least: each case has one more than the one that it falls through to.
func kidsOf(kind int) int {
	kids := 0
	switch kind {
	case api.EIf, api.EPut:
		kids++
		fallthrough
	case api.ETuple, api.ELet, api.EApply, api.ESet, api.EArray, api.EAt, api.ESeq,
		api.EAdd, api.ESub, api.EMul, api.EDiv, api.EMod, api.EEq, api.ELess:
		kids++
		fallthrough
	case api.EGet, api.ECase, api.EFn, api.ERef, api.EDeref, api.ELen, api.ERaise, api.EHandle, api.EPrint:
		kids++
	}
	return kids
}

// lead is how many parts stand ahead of the kids: a name or a number.
func (s shape) lead() int {
	if s.name != noName || s.number {
		return 1
	}
	return 0
}

// takesParts tells whether a form may have so many parts, a head that is no name not counted.
func (s shape) takesParts(n int) bool {
	least := s.lead() + s.kids + s.leastArms
	return n == least || n > least && (s.more || s.arms)
}

func (s shape) takesKids(n int) bool {
	return n == s.kids || n > s.kids && s.more
}

func (s shape) takesArms(n int) bool {
	return n == 0 && !s.arms || n >= s.leastArms && s.arms
}

// takesArgs tells whether a type of a kind may have so many parts.
func takesArgs(kind, n int) bool {
	switch kind {
	case api.TData:
		return true
	case api.TTuple:
		return n >= 2
	case api.TArrow:
		return n == 2
	case api.TRef, api.TArray:
		return n == 1
	}
	return n == 0
}
