package samples

import (
	"slices"
	"strconv"
	"strings"

	"heriot/api"
)

// operations are the names of the operations, in their order.
const operations = "int bool unit make tuple get call fn apply ref deref set array at put len raise handle print add sub mul div mod eq less if case new end"

// heads are the names of the kinds of types, in their order; those of variables and data types have their number behind them.
const heads = "int bool unit v d * -> ref array"

// reader reads a program in steps. It panics at what it can't read: the texts are those of tests.
type reader struct {
	words []string
	at    int
}

// Program reads a program in steps:
//
//	data list 1 = Nil | Cons v0 (d0 v0 @0 {e0});
//	exn no;
//	fun f 1 2 0 {0 1} (v0 (d0 v0 @0)) int [ 2 int := int #7; value 2 ];
//
// Behind the name of a function stand its numbers of type variables, regions and effect variables (those at the end that are 0 may be left away), and its Touch. An effect is {0 1 e0}: regions, then variables. A step is its Out, its Type, := and the operation, or just the operation where it has no Out; then, in any order, its arguments, #Int, .Code, (Types), @Region or @Regions, {Effects} or {Keep}, the modes keep and last, and its blocks in brackets, which may begin with exn and a Code and with bind and variables. The exceptions that every program has are not written. Main is the last function.
func Program(text string) api.Program {
	for _, own := range strings.Split("( ) [ ] { } ; |", " ") {
		text = strings.ReplaceAll(text, own, " "+own+" ")
	}
	r := &reader{words: strings.Fields(text)}
	p := api.Program{Exns: []string{"Div", "Index", "Size"}}
	for r.at < len(r.words) {
		switch r.next() {
		case "data":
			p.Datas = append(p.Datas, r.data())
		case "exn":
			p.Exns = append(p.Exns, r.next())
		case "fun":
			p.Funs = append(p.Funs, r.fun())
		}
		r.skip(";")
	}
	p.Main = len(p.Funs) - 1
	return p
}

func (r *reader) next() string {
	r.at++
	return r.words[r.at-1]
}

// sees tells whether a word is next.
func (r *reader) sees(word string) bool { return r.at < len(r.words) && r.words[r.at] == word }

// skip tells whether a word was next, and passes it.
func (r *reader) skip(word string) bool {
	seen := r.sees(word)
	if seen {
		r.at++
	}
	return seen
}

func numberOf(word string) int {
	n, err := strconv.Atoi(word)
	if err != nil {
		panic("no number: " + word)
	}
	return n
}

// numbers reads numbers as long as there are some.
func (r *reader) numbers() []int {
	var out []int
	for {
		n, err := strconv.Atoi(r.words[r.at])
		if err != nil {
			return out
		}
		out = append(out, n)
		r.at++
	}
}

func (r *reader) data() api.Data {
	d := api.Data{Name: r.next()}
	for i := range numberOf(r.next()) {
		d.Vars = append(d.Vars, "v"+strconv.Itoa(i))
	}
	for r.skip("=") || r.skip("|") {
		c := api.Con{Name: r.next()}
		for !r.sees("|") && !r.sees(";") {
			c.Fields = append(c.Fields, r.oneType())
		}
		d.Cons = append(d.Cons, c)
	}
	return d
}

func (r *reader) fun() api.Fun {
	f := api.Fun{Name: r.next()}
	counts := append(r.numbers(), 0, 0, 0)
	f.Types, f.Regions, f.Effects = counts[0], counts[1], counts[2]
	if r.sees("{") {
		f.Touch = r.effect()
	}
	f.Params = r.types()
	f.Result = r.oneType()
	f.Body = r.block()
	return f
}

// types reads types in parentheses.
func (r *reader) types() []api.Type {
	var out []api.Type
	r.skip("(")
	for !r.skip(")") {
		out = append(out, r.oneType())
	}
	return out
}

func (r *reader) oneType() api.Type {
	inside := r.skip("(")
	word := r.next()
	var t api.Type
	if word[0] == 'v' || word[0] == 'd' {
		t.N = numberOf(word[1:])
		word = word[:1]
	}
	t.Kind = slices.Index(strings.Fields(heads), word)
	for inside && !r.skip(")") {
		switch {
		case r.words[r.at][0] == '@':
			t.Region = numberOf(r.next()[1:])
		case r.sees("{"):
			t.Effect = r.effect()
		default:
			t.Args = append(t.Args, r.oneType())
		}
	}
	return t
}

func (r *reader) effect() api.Effect {
	r.skip("{")
	e := api.Effect{Regions: r.numbers()}
	for !r.skip("}") {
		e.Vars = append(e.Vars, numberOf(r.next()[1:]))
	}
	return e
}

func (r *reader) block() api.Block {
	var b api.Block
	r.skip("[")
	if r.skip("exn") {
		b.Code = numberOf(r.next())
		r.skip(";")
	}
	if r.skip("bind") {
		b.Bind = r.numbers()
		r.skip(";")
	}
	for !r.skip("value") {
		b.Steps = append(b.Steps, r.step())
		r.skip(";")
	}
	b.Value = numberOf(r.next())
	r.skip("]")
	return b
}

func (r *reader) step() api.Step {
	s := api.Step{Out: -1}
	if out := r.numbers(); out != nil {
		s.Out, s.Type = out[0], r.oneType()
		r.skip(":=")
	}
	s.Op = slices.Index(strings.Fields(operations), r.next())
	for !r.sees(";") && !r.sees("]") {
		r.field(&s)
	}
	return s
}

// field reads one field of a step.
func (r *reader) field(s *api.Step) {
	switch word := r.words[r.at]; word[0] {
	case '(':
		s.Types = r.types()
	case '[':
		s.Blocks = append(s.Blocks, r.block())
	case '{':
		if e := r.effect(); s.Op == api.OHandle {
			s.Keep = e.Regions
		} else {
			s.Effects = append(s.Effects, e)
		}
	case '#':
		n, err := strconv.ParseInt(r.next()[1:], 10, 64)
		if err != nil {
			panic("no int: " + word)
		}
		s.Int = n
	case '.':
		s.Code = numberOf(r.next()[1:])
	case '@':
		if region := numberOf(r.next()[1:]); s.Op == api.OCall {
			s.Regions = append(s.Regions, region)
		} else {
			s.Region = region
		}
	case 'k':
		r.next()
		s.Modes = append(s.Modes, api.Keep)
	case 'l':
		r.next()
		s.Modes = append(s.Modes, api.Last)
	default:
		s.Args = append(s.Args, numberOf(r.next()))
	}
}
