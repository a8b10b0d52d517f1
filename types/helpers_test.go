package types_test

import (
	"reflect"
	"strings"
	"testing"

	"heriot/api"
	"heriot/types"
	"heriot/words"
)

// mark stands (and is taken away) where an error is.
const mark = "§"

// refused is a program whose refusal is known: the first mark in its texts says where it stands.
type refused struct {
	e     api.Errno
	texts []string
}

func refuses(e api.Errno, texts ...string) refused { return refused{e, texts} }

func (r refused) check(t *testing.T) {
	t.Helper()
	want := api.Refusal{E: r.e}
	var texts []string
	for i, s := range r.texts {
		if at := strings.Index(s, mark); at >= 0 {
			want.Unit, want.At = i, at
		}
		texts = append(texts, strings.Replace(s, mark, "", 1))
	}
	checkRefusal(t, strings.Join(texts, "\n"), readUnits(t, texts...), want)
}

func checkRefusals(t *testing.T, list []refused) {
	t.Helper()
	for _, r := range list {
		r.check(t)
	}
}

func checkRefusal(t *testing.T, what string, units []api.Unit, want api.Refusal) {
	t.Helper()
	got, r := types.Infer(units)
	if r != want {
		t.Errorf("Infer: %s: %+v, not %+v", short(what), r, want)
	}
	if want.E != api.OK && !reflect.DeepEqual(got, api.Typed{}) {
		t.Errorf("Infer: %s: a program together with a refusal", short(what))
	}
}

// short is the begin of a text, for what a test prints.
func short(text string) string {
	if len(text) > 1000 {
		text = text[:1000] + ".."
	}
	return text
}

func readUnits(t *testing.T, texts ...string) []api.Unit {
	t.Helper()
	var units []api.Unit
	for _, s := range texts {
		u, r := words.Read(s)
		if r.E != api.OK {
			t.Fatalf("Read(%s): %+v", short(s), r)
		}
		units = append(units, u)
	}
	return units
}

// found is what Infer finds of some texts; Verify has to take it.
func found(t *testing.T, texts ...string) api.Typed {
	t.Helper()
	got, r := types.Infer(readUnits(t, texts...))
	if r != (api.Refusal{}) {
		t.Fatalf("Infer(%s): %+v", short(strings.Join(texts, "\n")), r)
	}
	if e := types.Verify(got); e != api.OK {
		t.Fatalf("Verify of what was found of %s: %d", short(strings.Join(texts, "\n")), e)
	}
	return got
}

// unitOf is the text of a unit m with some declarations and a main that is of no importance.
func unitOf(declarations string) string {
	return "(unit m " + declarations + " (fun main () 0))"
}

// inBody is the text of a unit with a function whose body is an expression, behind some declarations for all.
func inBody(expression string) string {
	return unitOf(common + "(fun body (p q) " + expression + ")")
}

const common = `(data pair (a b) (Pair a b)) (data list (a) (Nil) (Cons a (list a))) (data color () (Red) (Green)) (data box (a) (Box a)) (exception no)
 (fun id (x) x) (fun two (x y) (+ x y)) (fun int1 ((x int)) int x) (fun bool1 ((x bool)) bool x) (fun same ((x a) (y a)) a x)`

var (
	integer = api.Type{Kind: api.TInt}
	boolean = api.Type{Kind: api.TBool}
	nothing = api.Type{Kind: api.TUnit}
)

func variable(n int) api.Type { return api.Type{Kind: api.TVar, N: n} }

func data(n int, args ...api.Type) api.Type { return api.Type{Kind: api.TData, N: n, Args: args} }

func typ(kind int, args ...api.Type) api.Type { return api.Type{Kind: kind, Args: args} }

func arrow(from, to api.Type) api.Type { return typ(api.TArrow, from, to) }

// spell writes a type in the grammar of chapter 1, type variables by their numbers.
func spell(t api.Type, datas []api.Data) string {
	heads := []string{"int", "bool", "unit", "v", "", "*", "->", "ref", "array"}
	head := heads[t.Kind]
	switch t.Kind {
	case api.TInt, api.TBool, api.TUnit:
		return head
	case api.TVar:
		return head + string(rune('0'+t.N/10)) + string(rune('0'+t.N%10))
	case api.TData:
		head = datas[t.N].Name
	}
	return "(" + strings.Join(append([]string{head}, spellAll(t.Args, datas)...), " ") + ")"
}

func spellAll(list []api.Type, datas []api.Data) []string {
	var out []string
	for _, t := range list {
		out = append(out, spell(t, datas))
	}
	return out
}

// spellScheme writes a scheme: (params) result.
func spellScheme(s api.Scheme, datas []api.Data) string {
	return "(" + strings.Join(spellAll(s.Params, datas), " ") + ") " + spell(s.Result, datas)
}

// funOf finds a function by its name.
func funOf(t *testing.T, p api.Typed, name string) api.TypedFun {
	t.Helper()
	for _, f := range p.Funs {
		if f.Name == name {
			return f
		}
	}
	t.Fatalf("no function %s", name)
	return api.TypedFun{}
}

// checkScheme looks at the type of the function named body in a program, or in a unit with such a function.
func checkScheme(t *testing.T, expression, want string) {
	t.Helper()
	p := found(t, inBody(expression))
	if s := spellScheme(funOf(t, p, "body").Scheme, p.Datas); s != want {
		t.Errorf("%s: %s, not %s", expression, s, want)
	}
}

// every goes through an expression and all in it, an outer one ahead of its kids and these ahead of the arms.
func every(e *api.Expr, visit func(*api.Expr)) {
	visit(e)
	for i := range e.Kids {
		every(&e.Kids[i], visit)
	}
	for i := range e.Arms {
		every(&e.Arms[i].Body, visit)
	}
}

// copied is a copy without shared memory.
func copied[T any](v T) T {
	return deep(reflect.ValueOf(v)).Interface().(T)
}

func deep(v reflect.Value) reflect.Value {
	out := reflect.New(v.Type()).Elem()
	switch v.Kind() {
	case reflect.Struct:
		for i := range v.NumField() {
			out.Field(i).Set(deep(v.Field(i)))
		}
	case reflect.Slice:
		for i := range v.Len() {
			out = reflect.Append(out, deep(v.Index(i)))
		}
	default:
		out.Set(v)
	}
	return out
}
