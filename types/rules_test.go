package types_test

import (
	"strings"
	"testing"

	"heriot/api"
	"heriot/types"
)

// placed is the data types and functions of the rules' programs: pair is the data type 0, box 1, list 2, color 3.
const placed = "(unit m (data pair (a b) (Pair a b)) (data box (a) (Box a)) (data list (a) (Nil) (Cons a (list a))) (data color () (Red) (Green)) (fun id (x) x) (fun two (x y) (+ x y)) (fun body (p q) (seq 0 0)) (fun main () 0))"

// universe is the types that are put at each of so many places.
func universe(places int) []api.Type {
	list := []api.Type{integer, boolean, typ(api.TRef, integer), typ(api.TArray, integer), arrow(integer, boolean), nothing, data(3)}
	if places < 4 {
		list = append(list, variable(0), data(0, integer, boolean), data(1, integer), data(2, integer), typ(api.TTuple, integer, boolean))
	}
	if places < 3 {
		list = append(list, typ(api.TRef, boolean), arrow(integer, integer), variable(1), data(2, boolean), typ(api.TTuple, integer, boolean, boolean))
	}
	return list
}

// aRule says by the texts of types whether an expression is well typed: of its kids that are a _, and of each x in it, then of the expression itself, then of its Inst.
type aRule struct {
	text  string
	holds func(k []string) bool
}

func ruleList() []aRule {
	ints := func(result string) func(k []string) bool {
		return func(k []string) bool { return k[0] == "int" && k[1] == "int" && k[2] == result }
	}
	return []aRule{
		{"5", func(k []string) bool { return k[0] == "int" }},
		{"false", func(k []string) bool { return k[0] == "bool" }},
		{"unit", func(k []string) bool { return k[0] == "unit" }},
		{"p", func(k []string) bool { return k[0] == "v00" }},
		{"(two _ _)", ints("int")},
		{"(id _)", func(k []string) bool { return k[0] == k[1] && k[1] == k[2] }},
		{"(Red)", func(k []string) bool { return k[0] == "(color)" }},
		{"(Box _)", func(k []string) bool { return k[1] == form("box", k[0]) && k[0] == k[2] }},
		{"(Nil)", func(k []string) bool { return k[0] == form("list", k[1]) }},
		{"(tuple _ _)", func(k []string) bool { return k[2] == form("*", k[:2]...) }},
		{"(get 1 _)", func(k []string) bool { return len(parts(k[0], "*")) > 1 && parts(k[0], "*")[1] == k[1] }},
		{"(get 2 _)", func(k []string) bool { return len(parts(k[0], "*")) > 2 && parts(k[0], "*")[2] == k[1] }},
		{"(let x _ x)", func(k []string) bool { return k[0] == k[1] && k[1] == k[2] }},
		{"(let y _ _)", func(k []string) bool { return k[1] == k[2] }},
		{"(if _ _ _)", func(k []string) bool { return k[0] == "bool" && k[1] == k[2] && k[2] == k[3] }},
		{"(case _ ((Red) _) ((Green) _))", func(k []string) bool { return k[0] == "(color)" && k[1] == k[2] && k[2] == k[3] }},
		{"(case _ ((Pair y x) x))", func(k []string) bool { return k[0] == form("pair", "int", "bool") && k[1] == "bool" && k[2] == "bool" }},
		{"(case _ ((Box x) x))", func(k []string) bool { return k[0] == form("box", k[1]) && k[1] == k[2] }},
		{"(case _ ((Nil) 0) ((Cons x r) x))", func(k []string) bool { return k[0] == form("list", "int") && k[1] == "int" && k[2] == "int" }},
		{"(fn y _)", func(k []string) bool { return len(parts(k[1], "->")) == 2 && parts(k[1], "->")[1] == k[0] }},
		{"(fn x x)", func(k []string) bool { return k[1] == form("->", k[0], k[0]) }},
		{"(call _ _)", func(k []string) bool { return k[0] == form("->", k[1:]...) }},
		{"(ref _)", func(k []string) bool { return k[1] == form("ref", k[0]) }},
		{"(deref _)", func(k []string) bool { return k[0] == form("ref", k[1]) }},
		{"(set _ _)", func(k []string) bool { return k[0] == form("ref", k[1]) && k[2] == "unit" }},
		{"(array _ _)", func(k []string) bool { return k[0] == "int" && k[2] == form("array", k[1]) }},
		{"(at _ _)", func(k []string) bool { return k[0] == form("array", k[2]) && k[1] == "int" }},
		{"(put _ _ _)", func(k []string) bool { return k[0] == form("array", k[2]) && k[1] == "int" && k[3] == "unit" }},
		{"(len _)", func(k []string) bool { return len(parts(k[0], "array")) == 1 && k[1] == "int" }},
		{"(raise Size _)", func(k []string) bool { return k[0] == "int" }},
		{"(handle _)", func(k []string) bool { return k[0] == k[1] }},
		{"(handle _ (Div x x))", func(k []string) bool { return k[0] == "int" && k[1] == "int" && k[2] == "int" }},
		{"(handle _ (Div y _) (Size x _))", func(k []string) bool { return k[0] == k[1] && k[1] == k[2] && k[2] == k[3] }},
		{"(print _)", func(k []string) bool { return k[0] == "int" && k[1] == "unit" }},
		{"(seq _ _)", func(k []string) bool { return k[1] == k[2] }},
		{"(+ _ _)", ints("int")}, {"(- _ _)", ints("int")}, {"(* _ _)", ints("int")}, {"(/ _ _)", ints("int")}, {"(% _ _)", ints("int")},
		{"(= _ _)", ints("bool")}, {"(< _ _)", ints("bool")},
	}
}

func form(head string, parts ...string) string {
	return "(" + head + " " + strings.Join(parts, " ") + ")"
}

// parts are the parts of a type's text with such a head, if all of them are words.
func parts(text, head string) []string {
	if list := strings.Fields(strings.Trim(text, "()")); list[0] == head {
		return list[1:]
	}
	return nil
}

// TestRules puts all types at all places of each rule: Verify takes just those that the table says.
func TestRules(t *testing.T) {
	for _, r := range ruleList() {
		p := found(t, placed)
		body := &p.Funs[2].Body
		body.Kids[0] = bodyOf(t, strings.ReplaceAll(r.text, "_", "(raise Div 0)"))
		places := placesOf(&body.Kids[0])
		tries := &tried{t: t, rule: r, program: p, list: universe(len(places)), names: make([]string, len(places))}
		tries.all(places)
		if tries.taken == 0 || tries.refused == 0 {
			t.Errorf("%s: %d taken, %d refused", r.text, tries.taken, tries.refused)
		}
	}
}

// bodyOf reads an expression.
func bodyOf(t *testing.T, text string) api.Expr {
	t.Helper()
	return readUnits(t, unitOf("(fun f () "+text+")"))[0].Decls[0].Funs[0].Body
}

// placesOf finds what has any type in a rule's expression, and gives it as many Inst as it has to have.
func placesOf(root *api.Expr) []*api.Type {
	var places []*api.Type
	every(root, func(e *api.Expr) {
		if e != root && (e.Name == "Div" || e.Name == "x" && e.Kind == api.EName) {
			places = append(places, &e.Type)
		}
	})
	places = append(places, &root.Type)
	if root.Name == "id" || root.Name == "Box" || root.Name == "Nil" {
		root.Inst = make([]api.Type, 1)
		places = append(places, &root.Inst[0])
	}
	return places
}

// tried puts types at places.
type tried struct {
	t              *testing.T
	rule           aRule
	program        api.Typed
	list           []api.Type
	names          []string
	taken, refused int
}

func (r *tried) all(places []*api.Type) {
	if len(places) > 0 {
		for _, of := range r.list {
			*places[0] = of
			r.names[len(r.names)-len(places)] = spell(of, r.program.Datas)
			r.all(places[1:])
		}
		return
	}
	want := api.ErrMismatch // of almost every error in a type
	if r.rule.holds(r.names) {
		want = api.OK
		r.taken++
	} else {
		r.refused++
	}
	if isOther(r.rule.text, r.names[0]) {
		want = api.ErrArms
	}
	if e := types.Verify(r.program); e != want {
		r.t.Errorf("%s: %v: %d, not %d", r.rule.text, r.names, e, want)
	}
}

// isOther tells whether an expression is a case with the arms of a data type whose value is of another one.
func isOther(text, value string) bool {
	isData, isSame := false, false
	for con, data := range map[string]string{"((Pair": "(pair", "((Box": "(box", "((Nil": "(list", "((Red": "(color"} {
		isData = isData || strings.HasPrefix(value, data)
		isSame = isSame || strings.HasPrefix(value, data) && strings.Contains(text, con)
	}
	return strings.HasPrefix(text, "(case") && isData && !isSame
}
