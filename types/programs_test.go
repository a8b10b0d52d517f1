package types_test

import (
	"math/rand"
	"strconv"
	"strings"
	"testing"

	"heriot/api"
)

// bound is a variable in scope.
type bound struct {
	name string
	is   api.Type
}

// known is a function that may be called.
type known struct {
	name   string
	scheme api.Scheme
	within bool // whether it is of the same declaration and not noted: then it may be called at its own types alone
}

// maker makes programs by chance: each expression for a type that is asked for, so that most programs are well typed.
type maker struct {
	*rand.Rand
	left  int // how many expressions may still be made
	noise int // of so many expressions one is made for another type; none if it is 0
	vars  int // type variables
	scope []bound
	funs  []known
	exns  string
}

const base = `(unit base (data pair (a b) (Pair a b)) (data list (a) (Nil) (Cons a (list a))) (data color () (Red) (Green)) (exception e1) (exception e2)
 (data rose (a) (Leaf a) (Rose (list (rose a)))) (data nest (a) (End) (More a (nest (pair a a)))))`

// datas are the data types of base.
var datas = []api.Data{
	{Name: "pair", Vars: []string{"a", "b"}, Cons: []api.Con{{Name: "Pair", Fields: []api.Type{variable(0), variable(1)}}}},
	{Name: "list", Vars: []string{"a"}, Cons: []api.Con{{Name: "Nil"}, {Name: "Cons", Fields: []api.Type{variable(0), data(1, variable(0))}}}},
	{Name: "color", Cons: []api.Con{{Name: "Red"}, {Name: "Green"}}},
	{Name: "rose", Vars: []string{"a"}, Cons: []api.Con{{Name: "Leaf", Fields: []api.Type{variable(0)}}, {Name: "Rose", Fields: []api.Type{data(1, data(3, variable(0)))}}}},
	{Name: "nest", Vars: []string{"a"}, Cons: []api.Con{{Name: "End"}, {Name: "More", Fields: []api.Type{variable(0), data(4, data(0, variable(0), variable(0)))}}}},
}

// makeUnits makes a program of three units, the last one with main.
func makeUnits(t *testing.T, seed, noise int) []api.Unit {
	t.Helper()
	m := &maker{Rand: rand.New(rand.NewSource(int64(seed))), noise: noise, exns: "Div Index Size e1 e2"}
	first, second := "(unit a (use base)", "(unit m (use a) (use base)"
	for i := range 1 + m.Intn(3) {
		first += " " + m.group("f"+strconv.Itoa(i))
	}
	for i := range m.Intn(3) {
		second += " " + m.group("g"+strconv.Itoa(i))
	}
	m.vars, m.left = 0, 10
	m.scope = []bound{{"n", integer}, {"k", integer}}
	return readUnits(t, base, first+")", second+" (fun main (n k) "+m.expr(integer)+"))")
}

// group makes a declaration of functions.
func (m *maker) group(name string) string {
	m.vars = m.Intn(3)
	noted := m.Intn(2) == 0
	count := 1 + m.Intn(3)
	first := len(m.funs)
	for i := range count {
		var s api.Scheme
		s.Vars = m.vars
		for range m.Intn(4) {
			s.Params = append(s.Params, m.someType(2))
		}
		s.Result = m.someType(2)
		m.funs = append(m.funs, known{name + string(rune('a'+i)), s, !noted})
	}
	var texts []string
	for _, f := range m.funs[first:] {
		texts = append(texts, m.fun(f, noted != m.isWrong()))
	}
	for i := range m.funs[first:] {
		m.funs[first+i].within = false
	}
	if count == 1 {
		return "(fun " + texts[0] + ")"
	}
	return "(funs (" + strings.Join(texts, ") (") + "))"
}

func (m *maker) fun(f known, noted bool) string {
	m.scope = nil
	var params []string
	for i, t := range f.scheme.Params {
		m.scope = append(m.scope, bound{"p" + strconv.Itoa(i), t})
		if noted {
			params = append(params, "(p"+strconv.Itoa(i)+" "+spell(t, datas)+")")
		} else {
			params = append(params, "p"+strconv.Itoa(i))
		}
	}
	m.left = m.Intn(25)
	text := f.name + " (" + strings.Join(params, " ") + ") "
	if noted {
		text += spell(f.scheme.Result, datas) + " "
	}
	return text + m.expr(f.scheme.Result)
}

func (m *maker) isWrong() bool { return m.noise > 0 && m.Intn(m.noise) == 0 }

// someType makes a type that is nested at most so deep.
func (m *maker) someType(depth int) api.Type {
	kind := m.Intn(14)
	if depth == 0 {
		kind = m.Intn(5)
	}
	some := func() api.Type { return m.someType(depth - 1) }
	switch kind {
	case 0, 1:
		return []api.Type{integer, boolean, nothing}[m.Intn(3)]
	case 2:
		return integer
	case 3, 4:
		if m.vars == 0 {
			return data(2)
		}
		return variable(m.Intn(m.vars))
	case 5:
		return data(0, some(), some())
	case 6:
		return data(1, some())
	case 7:
		return data(3+m.Intn(2), some())
	case 8, 9:
		return arrow(some(), some())
	case 10:
		return typ(api.TRef, some())
	case 11:
		return typ(api.TArray, some())
	}
	return typ(api.TTuple, some(), some(), some())
}

func (m *maker) one(list string) string {
	words := strings.Fields(list)
	return words[m.Intn(len(words))]
}

// put puts types in for the variables of a type.
func put(t api.Type, types []api.Type) api.Type {
	if t.Kind == api.TVar {
		return types[t.N]
	}
	out := t
	out.Args = nil
	for _, a := range t.Args {
		out.Args = append(out.Args, put(a, types))
	}
	return out
}

// match finds what has to be put in for the variables of a type to get another one.
func match(t, want api.Type, types []*api.Type) bool {
	if t.Kind == api.TVar {
		if types[t.N] == nil {
			types[t.N] = &want
		}
		return isSame(*types[t.N], want)
	}
	if t.Kind != want.Kind || t.N != want.N || len(t.Args) != len(want.Args) {
		return false
	}
	for i := range t.Args {
		if !match(t.Args[i], want.Args[i], types) {
			return false
		}
	}
	return true
}

func isSame(a, b api.Type) bool {
	if a.Kind != b.Kind || a.N != b.N || len(a.Args) != len(b.Args) {
		return false
	}
	for i := range a.Args {
		if !isSame(a.Args[i], b.Args[i]) {
			return false
		}
	}
	return true
}

// with makes an expression with more variables in scope.
func (m *maker) with(t api.Type, more ...bound) string {
	n := len(m.scope)
	m.scope = append(m.scope, more...)
	text := m.expr(t)
	m.scope = m.scope[:n]
	return text
}

// variable finds a variable of a type, or says that there is none.
func (m *maker) variable(t api.Type) string {
	var names []string
	hidden := map[string]bool{}
	for i := len(m.scope) - 1; i >= 0; i-- {
		v := m.scope[i]
		if !hidden[v.name] && isSame(v.is, t) {
			names = append(names, v.name)
		}
		hidden[v.name] = true
	}
	if len(names) == 0 {
		return ""
	}
	return names[m.Intn(len(names))]
}

// expr makes an expression of a type.
func (m *maker) expr(t api.Type) string {
	m.left--
	if m.isWrong() {
		if m.Intn(3) == 0 {
			return []string{"none", "(none)", "(None)", "(raise none 0)", "(get 2 (tuple 1 2))", "(f0a 1 1 1 1)", "(Pair 1)"}[m.Intn(7)]
		}
		t = m.someType(2)
	}
	if v := m.variable(t); v != "" && (m.left < 0 || m.Intn(3) == 0) {
		return v
	}
	if m.left < 0 || m.Intn(3) == 0 {
		return m.make(t)
	}
	return m.use(t)
}

// make makes an expression that gives a new value of a type.
func (m *maker) make(t api.Type) string {
	switch t.Kind {
	case api.TInt:
		if m.left < 0 {
			return m.one("0 1 -7 42")
		}
		return "(" + m.one("+ - * / %") + " " + m.expr(integer) + " " + m.expr(integer) + ")"
	case api.TBool:
		if m.left < 0 {
			return m.one("true false")
		}
		return "(" + m.one("= <") + " " + m.expr(integer) + " " + m.expr(integer) + ")"
	case api.TUnit:
		return m.effect()
	case api.TVar:
		return "(raise " + m.one(m.exns) + " " + m.expr(integer) + ")"
	case api.TTuple:
		return "(tuple" + m.each(t.Args, nil) + ")"
	case api.TArrow:
		name := m.one("x y z p0")
		return "(fn " + name + " " + m.with(t.Args[1], bound{name, t.Args[0]}) + ")"
	case api.TRef:
		return "(ref " + m.expr(t.Args[0]) + ")"
	case api.TArray:
		return "(array " + m.expr(integer) + " " + m.expr(t.Args[0]) + ")"
	}
	cons := datas[t.N].Cons
	con := cons[0]
	if m.left > 0 {
		con = cons[m.Intn(len(cons))]
	}
	return "(" + con.Name + m.each(con.Fields, t.Args) + ")"
}

// each makes an expression for each of some types.
func (m *maker) each(list, types []api.Type) string {
	text := ""
	for _, t := range list {
		if types != nil {
			t = put(t, types)
		}
		text += " " + m.expr(t)
	}
	return text
}

func (m *maker) effect() string {
	t := m.someType(1)
	if m.left < 0 {
		return "unit"
	}
	switch m.Intn(3) {
	case 0:
		return "(print " + m.expr(integer) + ")"
	case 1:
		return "(set " + m.expr(typ(api.TRef, t)) + " " + m.expr(t) + ")"
	}
	return "(put " + m.expr(typ(api.TArray, t)) + " " + m.expr(integer) + " " + m.expr(t) + ")"
}

// use makes an expression that gets to a value of a type in some way.
func (m *maker) use(t api.Type) string {
	other := m.someType(1)
	name := m.one("x y z p0")
	switch m.Intn(12) {
	case 0, 1:
		return "(let " + name + " " + m.expr(other) + " " + m.with(t, bound{name, other}) + ")"
	case 2:
		return "(if " + m.expr(boolean) + " " + m.expr(t) + " " + m.expr(t) + ")"
	case 3:
		return "(seq " + m.expr(other) + " " + m.expr(t) + ")"
	case 4:
		return "(call " + m.expr(arrow(other, t)) + " " + m.expr(other) + ")"
	case 5:
		return "(deref " + m.expr(typ(api.TRef, t)) + ")"
	case 6:
		return "(at " + m.expr(typ(api.TArray, t)) + " " + m.expr(integer) + ")"
	case 7:
		return "(get 1 (tuple " + m.expr(other) + " " + m.expr(t) + "))"
	case 8:
		return "(handle " + m.expr(t) + " (" + m.one(m.exns) + " " + name + " " + m.with(t, bound{name, integer}) + "))"
	case 9:
		return m.cases(t)
	}
	return m.call(t)
}

func (m *maker) cases(t api.Type) string {
	n := m.Intn(len(datas))
	of := data(n)
	for range datas[n].Vars {
		of.Args = append(of.Args, m.someType(1))
	}
	text := "(case " + m.expr(of)
	for _, c := range datas[n].Cons {
		pattern := c.Name
		var more []bound
		for i, f := range c.Fields {
			name := strings.Fields("x y")[i]
			pattern += " " + name
			more = append(more, bound{name, put(f, of.Args)})
		}
		text += " ((" + pattern + ") " + m.with(t, more...) + ")"
	}
	return text + ")"
}

// call makes a known call that gives a type, if there is one.
func (m *maker) call(t api.Type) string {
	for _, i := range m.Perm(len(m.funs)) {
		f := m.funs[i]
		inst := make([]*api.Type, f.scheme.Vars)
		if !match(f.scheme.Result, t, inst) {
			continue
		}
		types := make([]api.Type, len(inst))
		own := true
		for n, p := range inst {
			types[n] = m.someType(1)
			if f.within && p == nil {
				types[n] = variable(n)
			} else if p != nil {
				types[n] = *p
			}
			own = own && isSame(types[n], variable(n))
		}
		if own || !f.within || m.isWrong() {
			return "(" + f.name + m.each(f.scheme.Params, types) + ")"
		}
	}
	return m.make(t)
}
