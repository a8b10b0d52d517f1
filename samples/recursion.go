package samples

import (
	"strconv"
	"strings"
)

// descent is a way in which a function goes down its first parameter x.
type descent struct {
	is    shape
	parts []named  // what is in scope where it goes on
	below []string // what it goes on with: one of these
	text  string   // its body, with BASE and STEP
	whole []string // what main gives it: one of these
}

// descents are all of them: down numbers, lists and trees.
func descents() []descent {
	tree, list := shapeOf("tree"), shapeOf("list", integer)
	cons := []named{{name: "h", is: integer}, {name: "r", is: list}}
	node := []named{{name: "a", is: tree}, {name: "h", is: integer}, {name: "b", is: tree}}
	numbers := []string{"n", "k", "3"}
	return []descent{
		{integer, nil, []string{"(- x 1)"}, "(if (< 0 x) STEP BASE)", numbers},
		{integer, nil, []string{"(- x 1)"}, "(if (< x 1) BASE STEP)", numbers},
		{list, cons, []string{"r"}, "(case x ((Nil) BASE) ((Cons h r) STEP))", []string{"(upto n)", "(upto k)", "(Nil)"}},
		{tree, node, []string{"a", "b"}, "(case x ((Leaf) BASE) ((Node a h b) STEP))", []string{"(grow n)", "(grow k)", "(Leaf)"}},
	}
}

// Recursive gives the texts of the two units of a program, another one for each number, whose functions go down numbers, lists and trees. Main has two parameters.
func Recursive(number int) []string {
	m := &maker{chance: chance{uint64(number)*0x9e3779b97f4a7c15 + 2}}
	text := "(unit m (use tools) (data tree () (Leaf) (Node (tree) int (tree))) (fun grow (n) (if (< n 1) (Leaf) (Node (grow (- n 1)) n (Leaf))))"
	all := descents()
	var ways []descent
	for i := range 1 + m.below(3) {
		way := all[m.below(len(all))]
		ways = append(ways, way)
		text += " (fun " + m.going("f"+strconv.Itoa(i), way) + ")"
	}
	m.own = len(m.funs)
	text += " (fun main (n k) "
	for i, f := range m.funs {
		m.scope, m.left = []named{{name: "n", is: integer}, {name: "k", is: integer}}, 3
		text += "(seq (handle (seq " + m.callOf(f, m.oneOf(ways[i].whole)) + " unit) (no v (print v))) "
	}
	return []string{tools, text + "n" + strings.Repeat(")", len(m.funs)+2)}
}

// oneOf gives one of a list. Where there is no choice, none is made.
func (m *maker) oneOf(list []string) string {
	if len(list) == 1 {
		return list[0]
	}
	return list[m.below(len(list))]
}

// going makes a function that goes down its first parameter.
func (m *maker) going(name string, way descent) string {
	f := named{name: name, params: []shape{way.is}, is: m.shape(1)}
	if m.below(3) == 0 {
		f.is = shapeOf("tree")
	}
	for range m.below(3) {
		f.params = append(f.params, m.shape(1))
	}
	m.own, m.scope = len(m.funs), nil
	params := ""
	for i, p := range f.params {
		own := []string{"x", "y", "z"}[i]
		m.scope = append(m.scope, named{name: own, is: p})
		params += " (" + own + " " + p.text() + ")"
	}
	m.left = 2
	base := m.expr(f.is)
	m.funs = append(m.funs, f)
	m.scope = append(m.scope, way.parts...)
	m.onward, m.left = way.below, 2+m.below(8)
	return f.name + " (" + params[1:] + ") " + f.is.text() + " " + strings.NewReplacer("BASE", base, "STEP", m.step(f)).Replace(way.text)
}

// step makes what a function does where it goes on: mostly it calls itself.
func (m *maker) step(f named) string {
	switch m.below(6) {
	case 0:
		return m.expr(f.is)
	case 1:
		return m.callOf(f, m.oneOf(m.onward))
	}
	again := m.callOf(f, m.oneOf(m.onward))
	m.scope = append(m.scope, named{name: "w", is: f.is})
	return "(let w " + again + " " + m.expr(f.is) + ")"
}
