// Package samples makes programs for the tests of the layers. No layer calls it.
package samples

import (
	"slices"
	"strconv"
	"strings"
)

// chance gives numbers by a short rule, so that a program can be made again by its number.
type chance struct{ state uint64 }

// below gives a number from 0 to n - 1.
func (c *chance) below(n int) int {
	c.state = c.state*6364136223846793005 + 1442695040888963407
	return int((c.state >> 33) % uint64(n))
}

// shape is a type, as it is written in a text.
type shape struct {
	head string
	of   []shape
}

func (s shape) text() string {
	if s.of == nil && slices.Contains([]string{"int", "bool", "unit"}, s.head) {
		return s.head
	}
	text := "(" + s.head
	for _, p := range s.of {
		text += " " + p.text()
	}
	return text + ")"
}

func shapeOf(head string, of ...shape) shape { return shape{head, of} }

var integer = shape{head: "int"}

// named is a variable, or a function with its parameters, by its shape.
type named struct {
	name   string
	params []shape
	is     shape
}

// maker makes programs by chance whose types are found, and which do something: functions count their first parameter down.
type maker struct {
	chance
	left   int // how many expressions may still be made
	scope  []named
	funs   []named
	own    int      // from this one on, functions are of the declaration that is made
	onward []string // what these get as their first argument, so that they end: one of these
}

// tools is a unit of functions whose types have variables, for all programs by chance.
const tools = `(unit tools (exception no) (exception why) (data list (a) (Nil) (Cons a (list a))) (data color () (Red) (Green) (Blue)) (data pair (a b) (Pair a b))
 (fun keep (x) x) (fun both ((p (* a b))) (* a b) p) (fun twice (f) (fn x (call f (call f x))))
 (fun size (l) (case l ((Nil) 0) ((Cons x r) (+ 1 (size r)))))
 (fun map (f l) (case l ((Nil) (Nil)) ((Cons x r) (Cons (call f x) (map f r)))))
 (fun fold (f z l) (case l ((Nil) z) ((Cons x r) (fold f (call (call f z) x) r))))
 (fun upto (n) (if (< n 1) (Nil) (Cons n (upto (- n 1))))))`

// Texts gives the texts of the three units of a program, another one for each number. Most have types and end; main has two parameters.
func Texts(number int) []string {
	m := &maker{chance: chance{uint64(number) * 0x9e3779b97f4a7c15}, onward: []string{"(- n 1)"}}
	first, last := "(unit a (use tools)", "(unit m (use a) (use tools)"
	for i := range 1 + m.below(3) {
		first += m.group("f" + strconv.Itoa(i))
	}
	for i := range m.below(2) {
		last += m.group("g" + strconv.Itoa(i))
	}
	m.scope, m.own = []named{{name: "n", is: integer}, {name: "k", is: integer}}, len(m.funs)
	last += " (fun main (n k) "
	for _, f := range m.funs {
		m.left = 10
		last += "(seq (handle (seq " + m.callOf(f, m.one("n k 3")) + " unit) (" + m.one("no why Div Index Size") + " x (print x))) "
	}
	m.left = 10
	return []string{tools, first + ")", last + m.expr(integer) + strings.Repeat(")", len(m.funs)+2)}
}

// group makes a declaration of functions.
func (m *maker) group(name string) string {
	m.own = len(m.funs)
	for i := range 1 + m.below(2) {
		f := named{name: name + string(rune('a'+i)), params: []shape{integer}, is: m.shape(2)}
		for range m.below(3) {
			f.params = append(f.params, m.shape(2))
		}
		m.funs = append(m.funs, f)
	}
	var texts []string
	for _, f := range m.funs[m.own:] {
		texts = append(texts, m.fun(f))
	}
	if len(texts) == 1 {
		return " (fun " + texts[0] + ")"
	}
	return " (funs (" + strings.Join(texts, ") (") + "))"
}

func (m *maker) fun(f named) string {
	m.scope = nil
	var params []string
	for i, p := range f.params {
		name := []string{"n", "x", "y"}[i]
		m.scope = append(m.scope, named{name: name, is: p})
		params = append(params, "("+name+" "+p.text()+")")
	}
	m.left = 0
	none := m.expr(f.is)
	m.left = 5 + m.below(25)
	return f.name + " (" + strings.Join(params, " ") + ") " + f.is.text() + " (if (< n 1) " + none + " " + m.expr(f.is) + ")"
}

// shape makes a shape that is nested at most so deep.
func (m *maker) shape(depth int) shape {
	if depth == 0 || m.below(3) == 0 {
		return shapeOf(m.one("int int int bool unit color"))
	}
	head := m.one("list list pair * * -> -> ref array")
	if slices.Contains([]string{"list", "ref", "array"}, head) {
		return shapeOf(head, m.shape(depth-1))
	}
	return shapeOf(head, m.shape(depth-1), m.shape(depth-1))
}

func (m *maker) one(list string) string {
	words := strings.Fields(list)
	return words[m.below(len(words))]
}

// form writes a form whose parts are words and shapes: for each shape an expression is made.
func (m *maker) form(parts ...any) string {
	text := ""
	for _, p := range parts {
		if s, ok := p.(shape); ok {
			text += " " + m.expr(s)
		} else {
			text += " " + p.(string)
		}
	}
	return "(" + text[1:] + ")"
}

// with makes an expression with one more variable in scope.
func (m *maker) with(name string, is, want shape) string {
	m.scope = append(m.scope, named{name: name, is: is})
	text := m.expr(want)
	m.scope = m.scope[:len(m.scope)-1]
	return text
}

// variable finds a variable of a shape, or gives nothing.
func (m *maker) variable(want shape) string {
	var found []string
	hidden := map[string]bool{}
	for _, v := range slices.Backward(m.scope) {
		if !hidden[v.name] && v.is.text() == want.text() {
			found = append(found, v.name)
		}
		hidden[v.name] = true
	}
	if len(found) == 0 {
		return ""
	}
	return found[m.below(len(found))]
}

// expr makes an expression of a shape.
func (m *maker) expr(want shape) string {
	m.left--
	if v := m.variable(want); v != "" && (m.left < 0 || m.below(3) == 0) {
		return v
	}
	if m.left < 0 || m.below(3) == 0 {
		return m.make(want)
	}
	return m.use(want)
}

// make makes a new value of a shape.
func (m *maker) make(want shape) string {
	small := m.left < 0
	switch want.head {
	case "int":
		if small {
			return m.one("0 1 2 3 -7")
		}
		return m.makeInt()
	case "bool":
		if small {
			return m.one("true false")
		}
		return m.form(m.one("= <"), integer, integer)
	case "unit":
		if small {
			return "unit"
		}
		return m.effect()
	case "color":
		return "(" + m.one("Red Green Blue") + ")"
	case "tree":
		if small {
			return "(Leaf)"
		}
		return m.form("Node", want, integer, want)
	case "list":
		if small {
			return "(Nil)"
		}
		return m.form("Cons", want.of[0], want)
	case "pair":
		return m.form("Pair", want.of[0], want.of[1])
	case "*":
		return m.form("tuple", want.of[0], want.of[1])
	case "->":
		name := m.one("x y z v")
		return "(fn " + name + " " + m.with(name, want.of[0], want.of[1]) + ")"
	case "ref":
		return m.form("ref", want.of[0])
	}
	return m.form("array", m.one("1 2 3 3 3 3 3 3 3 3 3 3 4 5 0 -1 4097"), want.of[0])
}

func (m *maker) makeInt() string {
	other := m.shape(1)
	switch m.below(5) {
	case 0:
		return m.form("size", shapeOf("list", other))
	case 1:
		return m.form("len", shapeOf("array", other))
	case 2:
		return "(case " + m.expr(shapeOf("color")) + " ((Green) 2) ((Blue) " + m.expr(integer) + ") ((Red) 4))"
	}
	return m.form(m.one("+ + - - * / %"), integer, integer)
}

func (m *maker) effect() string {
	other := m.shape(1)
	switch m.below(4) {
	case 0:
		return m.form("set", shapeOf("ref", other), other)
	case 1:
		return m.form("put", shapeOf("array", other), m.one("0 0 1 2"), other)
	}
	return m.form("print", integer)
}

// use makes an expression that gets to a value of a shape in some way.
func (m *maker) use(want shape) string {
	other := m.shape(2)
	name := m.one("x y z v")
	switch m.below(20) {
	case 0, 1:
		return "(let " + name + " " + m.expr(other) + " " + m.with(name, other, want) + ")"
	case 2:
		return m.form("if", shapeOf("bool"), want, want)
	case 3, 4:
		return m.form("seq", shapeOf("unit"), want)
	case 5:
		return m.form("call", shapeOf("->", other, want), other)
	case 6:
		return m.form("deref", shapeOf("ref", want))
	case 7:
		return m.form("at", shapeOf("array", want), m.one("0 0 0 0 0 0 1 1 2 3 -1"))
	case 8:
		return "(get " + m.one("0 0") + " " + m.form("both", shapeOf("*", want, other)) + ")"
	case 9:
		return "(get 1 " + m.form("both", shapeOf("*", other, want)) + ")"
	case 10:
		return "(handle " + m.expr(want) + " (" + m.one("no why Div Index Size") + " " + name + " " + m.with(name, integer, want) + "))"
	case 11:
		return "(case " + m.expr(shapeOf("list", other)) + " ((Cons " + name + " rest) " + m.with(name, other, want) + ") ((Nil) " + m.expr(want) + "))"
	case 12:
		return "(case " + m.expr(shapeOf("pair", want, other)) + " ((Pair " + name + " y1) " + m.with(name, want, want) + "))"
	case 13:
		return m.tool(want, other)
	}
	return m.call(want)
}

// tool calls one of the functions of tools, or raises.
func (m *maker) tool(want, other shape) string {
	switch {
	case want.head == "list" && m.below(2) == 0:
		return m.form("map", shapeOf("->", other, want.of[0]), shapeOf("list", other))
	case want.head == "list" && want.of[0].head == "int":
		return m.form("upto", integer)
	case want.head == "->" && want.of[0].text() == want.of[1].text():
		return m.form("twice", want)
	}
	switch m.below(4) {
	case 0:
		return m.form("raise", m.one("no why Div Index Size"), integer)
	case 1:
		return m.form("keep", want)
	}
	return m.form("fold", shapeOf("->", want, shapeOf("->", other, want)), want, shapeOf("list", other))
}

// call calls a function that gives a shape, if there is one: one of the same declaration with a smaller first argument.
func (m *maker) call(want shape) string {
	begin := m.below(len(m.funs) + 1)
	for k := range m.funs {
		i := (begin + k) % len(m.funs)
		if m.funs[i].is.text() != want.text() {
			continue
		}
		if i >= m.own {
			return m.callOf(m.funs[i], m.oneOf(m.onward))
		}
		if m.funs[i].params[0].head != "int" {
			return m.callOf(m.funs[i], m.expr(m.funs[i].params[0]))
		}
		return m.callOf(m.funs[i], m.one("1 2 3"))
	}
	return m.make(want)
}

func (m *maker) callOf(f named, first string) string {
	parts := []any{f.name, first}
	for _, p := range f.params[1:] {
		parts = append(parts, p)
	}
	return m.form(parts...)
}
