package words_test

import (
	"math/rand"
	"reflect"
	"strconv"
	"strings"

	"heriot/api"
)

// tidy is a copy of a tree in which every empty list is nil.
func tidy(u api.Unit) api.Unit {
	return copied(reflect.ValueOf(u), true).Interface().(api.Unit)
}

// withoutAt is a tidy copy of a tree in which every At is 0.
func withoutAt(u api.Unit) api.Unit {
	return copied(reflect.ValueOf(u), false).Interface().(api.Unit)
}

func copied(v reflect.Value, at bool) reflect.Value {
	out := reflect.New(v.Type()).Elem()
	switch v.Kind() {
	case reflect.Struct:
		for i := range v.NumField() {
			if at || v.Type().Field(i).Name != "At" {
				out.Field(i).Set(copied(v.Field(i), at))
			}
		}
	case reflect.Slice:
		for i := range v.Len() {
			out = reflect.Append(out, copied(v.Index(i), at))
		}
	default:
		out.Set(v)
	}
	return out
}

// speller writes a tree as the grammar says, apart from package words: any tree, also one that no text has. It sets each At on the way.
type speller struct{ text []byte }

// spell gives the text of a tree and a copy of it with the places in that text.
func spell(u api.Unit) (string, api.Unit) {
	u = tidy(u)
	var s speller
	s.open()
	s.words("unit", u.Name)
	for _, v := range u.Uses {
		s.form("use", v)
	}
	for i := range u.Decls {
		s.decl(&u.Decls[i])
	}
	s.close()
	return string(s.text), u
}

func (s *speller) put(w string) int {
	if n := len(s.text); n > 0 && s.text[n-1] != '(' {
		s.text = append(s.text, ' ')
	}
	at := len(s.text)
	s.text = append(s.text, w...)
	return at
}

func (s *speller) open() int { return s.put("(") }

func (s *speller) close() { s.text = append(s.text, ')') }

func (s *speller) words(list ...string) {
	for _, w := range list {
		s.put(w)
	}
}

func (s *speller) form(list ...string) {
	s.open()
	s.words(list...)
	s.close()
}

func (s *speller) decl(d *api.Decl) {
	d.At = s.open()
	switch d.Kind {
	case api.DData:
		s.words("data", d.Data.Name)
		s.form(d.Data.Vars...)
		for _, c := range d.Data.Cons {
			s.open()
			s.put(c.Name)
			s.types(c.Fields)
			s.close()
		}
	case api.DExn:
		s.words("exception", d.Exn)
	case api.DFuns:
		if len(d.Funs) == 1 {
			s.put("fun")
			s.fun(&d.Funs[0])
			break
		}
		s.put("funs")
		for i := range d.Funs {
			s.open()
			s.fun(&d.Funs[i])
			s.close()
		}
	}
	s.close()
}

func (s *speller) fun(f *api.FunDecl) {
	f.At = s.put(f.Name)
	s.open()
	for i, p := range f.Params {
		if f.Noted && i < len(f.Types) {
			s.open()
			s.put(p)
			s.types(f.Types[i : i+1])
			s.close()
		} else {
			s.put(p)
		}
	}
	s.close()
	if f.Noted {
		s.types([]api.Type{f.Result})
	}
	s.expr(&f.Body)
}

func (s *speller) types(list []api.Type) {
	for _, t := range list {
		switch t.Kind {
		case api.TInt:
			s.put("int")
			continue
		case api.TBool:
			s.put("bool")
			continue
		case api.TUnit:
			s.put("unit")
			continue
		case api.TVar:
			s.put(t.Name)
			continue
		}
		s.open()
		s.put(map[int]string{api.TData: t.Name, api.TTuple: "*", api.TArrow: "->", api.TRef: "ref", api.TArray: "array"}[t.Kind])
		s.types(t.Args)
		s.close()
	}
}

const allHeads = "int bool unit name call make tuple get let if case fn call ref deref set array at put len raise handle print seq + - * / % = <"

func (s *speller) expr(e *api.Expr) {
	switch e.Kind {
	case api.EInt:
		e.At = s.put(strconv.FormatInt(e.Int, 10))
		return
	case api.EBool:
		e.At = s.put(strconv.FormatBool(e.Int == 1))
		return
	case api.EUnit:
		e.At = s.put("unit")
		return
	case api.EName:
		e.At = s.put(e.Name)
		return
	}
	e.At = s.open()
	if e.Kind >= api.ETuple && e.Kind <= api.ELess {
		s.put(strings.Fields(allHeads)[e.Kind])
	}
	switch e.Kind {
	case api.ECall, api.EMake, api.ELet, api.EFn, api.ERaise:
		s.put(e.Name)
	case api.EGet:
		s.put(strconv.FormatInt(e.Int, 10))
	}
	for i := range e.Kids {
		s.expr(&e.Kids[i])
	}
	for i := range e.Arms {
		s.arm(&e.Arms[i], e.Kind)
	}
	s.close()
}

func (s *speller) arm(a *api.Arm, kind int) {
	s.open()
	if kind == api.ECase {
		s.form(append([]string{a.Name}, a.Vars...)...)
	} else {
		s.words(a.Name)
		s.words(a.Vars...)
	}
	s.expr(&a.Body)
	s.close()
}

// maker makes trees by chance, which a text has.
type maker struct {
	*rand.Rand
	left int // how many forms may still be made
}

func (m *maker) one(list string) string {
	words := strings.Fields(list)
	return words[m.Intn(len(words))]
}

func (m *maker) small() string {
	return m.one("x y z f g list a b units funny a_1 e2 zZ9_ abcdefghijklmnopqrstuvwxyz012345")
}
func (m *maker) great() string {
	return m.one("Nil Cons A B2 C_c Div Unit ABCDEFGHIJKLMNOPQRSTUVWXYZ012345")
}
func (m *maker) exn() string { return m.one("Div Index Size e no empty") }

func (m *maker) smalls(most int) []string {
	var out []string
	for range m.Intn(most + 1) {
		out = append(out, m.small())
	}
	return out
}

func (m *maker) unit() api.Unit {
	u := api.Unit{Name: m.small(), Uses: m.smalls(2)}
	for range m.Intn(6) {
		u.Decls = append(u.Decls, m.decl())
	}
	return u
}

func (m *maker) decl() api.Decl {
	d := api.Decl{Kind: m.Intn(3)}
	switch d.Kind {
	case api.DData:
		d.Data = api.Data{Name: m.small(), Vars: m.smalls(2)}
		for range 1 + m.Intn(3) {
			d.Data.Cons = append(d.Data.Cons, api.Con{Name: m.great(), Fields: m.types(0, 3)})
		}
	case api.DExn:
		d.Exn = m.small()
	case api.DFuns:
		for range 1 + m.Intn(3) {
			d.Funs = append(d.Funs, m.fun())
		}
	}
	return d
}

func (m *maker) fun() api.FunDecl {
	f := api.FunDecl{Name: m.small(), Params: m.smalls(3), Noted: m.Intn(2) == 0}
	if f.Noted {
		f.Types = m.types(len(f.Params), len(f.Params))
		f.Result = m.types(1, 1)[0]
	}
	f.Body = m.expr()
	return f
}

func (m *maker) types(least, most int) []api.Type {
	var out []api.Type
	for range least + m.Intn(most-least+1) {
		t := api.Type{Kind: m.Intn(api.TArray + 1)}
		if m.left--; m.left < 0 {
			t.Kind = m.Intn(api.TVar + 1)
		}
		switch t.Kind {
		case api.TVar:
			t.Name = m.small()
		case api.TData:
			t.Name, t.Args = m.small(), m.types(0, 2)
		case api.TTuple:
			t.Args = m.types(2, 4)
		case api.TArrow:
			t.Args = m.types(2, 2)
		case api.TRef, api.TArray:
			t.Args = m.types(1, 1)
		}
		out = append(out, t)
	}
	return out
}

func (m *maker) kids(least, most int) []api.Expr {
	var out []api.Expr
	for range least + m.Intn(most-least+1) {
		out = append(out, m.expr())
	}
	return out
}

func (m *maker) expr() api.Expr {
	e := api.Expr{Kind: m.Intn(api.ELess + 1)}
	if m.left--; m.left < 0 {
		e.Kind = m.Intn(api.EName + 1)
	}
	switch e.Kind {
	case api.EInt:
		e.Int = []int64{0, 1, -1, 10, 999, -1 << 63, 1<<63 - 1, m.Int63()}[m.Intn(8)]
	case api.EBool:
		e.Int = m.Int63n(2)
	case api.EName:
		e.Name = m.small()
	case api.ECall:
		e.Name, e.Kids = m.small(), m.kids(0, 3)
	case api.EMake:
		e.Name, e.Kids = m.great(), m.kids(0, 3)
	case api.ETuple:
		e.Kids = m.kids(2, 4)
	case api.EGet:
		e.Int, e.Kids = m.Int63n(1000), m.kids(1, 1)
	case api.ELet:
		e.Name, e.Kids = m.small(), m.kids(2, 2)
	case api.EIf, api.EPut:
		e.Kids = m.kids(3, 3)
	case api.ECase, api.EHandle:
		m.arms(&e)
	case api.EFn:
		e.Name, e.Kids = m.small(), m.kids(1, 1)
	case api.ERaise:
		e.Name, e.Kids = m.exn(), m.kids(1, 1)
	case api.ERef, api.EDeref, api.ELen, api.EPrint:
		e.Kids = m.kids(1, 1)
	case api.EUnit:
	default:
		e.Kids = m.kids(2, 2)
	}
	return e
}

func (m *maker) arms(e *api.Expr) {
	e.Kids = m.kids(1, 1)
	if e.Kind == api.ECase {
		for range 1 + m.Intn(3) {
			e.Arms = append(e.Arms, api.Arm{Name: m.great(), Vars: m.smalls(3), Body: m.expr()})
		}
		return
	}
	for range m.Intn(3) {
		e.Arms = append(e.Arms, api.Arm{Name: m.exn(), Vars: []string{m.small()}, Body: m.expr()})
	}
}

// spoil changes one field of a tree by chance; often no text has it any more.
func (m *maker) spoil(u api.Unit) api.Unit {
	u = tidy(u)
	var fields []reflect.Value
	gather(reflect.ValueOf(&u).Elem(), &fields)
	v := fields[m.Intn(len(fields))]
	switch v.Kind() {
	case reflect.Int, reflect.Int64:
		v.SetInt([]int64{0, 1, 2, 3, -1, 7, 31, 999, 1000}[m.Intn(9)])
	case reflect.Bool:
		v.SetBool(!v.Bool())
	case reflect.String:
		v.SetString([]string{"", "x", "X", "Div", "let", "x y", "é", "5", "unit", "(", ";", "x-y", "X'", "_", strings.Repeat("x", 33)}[m.Intn(15)])
	case reflect.Slice:
		if n := v.Len(); n > 0 && m.Intn(2) == 0 {
			v.Set(v.Slice(0, n-1))
		} else if n > 0 && m.Intn(2) == 0 {
			v.Set(reflect.Append(v, v.Index(0)))
		} else {
			v.Set(reflect.Append(v, reflect.Zero(v.Type().Elem())))
		}
	}
	return u
}

// gather finds the fields of a tree that can be changed by themselves.
func gather(v reflect.Value, out *[]reflect.Value) {
	if v.Kind() == reflect.Struct {
		for i := range v.NumField() {
			if v.Type().Field(i).Name != "At" {
				gather(v.Field(i), out)
			}
		}
		return
	}
	*out = append(*out, v)
	if v.Kind() == reflect.Slice {
		for i := range v.Len() {
			gather(v.Index(i), out)
		}
	}
}
