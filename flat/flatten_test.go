package flat_test

import (
	"reflect"
	"strconv"
	"strings"
	"testing"

	"heriot/api"
	"heriot/flat"
	"heriot/samples"
)

const base = `(unit lib (exception no) (exception why) (data list (a) (Nil) (Cons a (list a))) (data color () (Red) (Green) (Blue))
 (fun id (x) x) (fun pick (a b) a))`

// TestBodies: for each kind of expression its steps.
func TestBodies(t *testing.T) {
	for text, want := range map[string]string{
		"(f (n) (let x (+ n 1) (if (< x 3) x (* x x))))": "[1 int := int #1; 2 int := add 0 1; 3 int := int #3; 4 bool := less 2 3; 6 int := if 4 [value 2] [5 int := mul 2 2; value 5]; value 6]",
		"(f (n) n)":                   "[value 0]",
		"(f () -7)":                   "[0 int := int #-7; value 0]",
		"(f () true)":                 "[0 bool := bool #1; value 0]",
		"(f () false)":                "[0 bool := bool #0; value 0]",
		"(f () unit)":                 "[0 unit := unit; value 0]",
		"(f (a b) (seq (print b) a))": "[2 unit := print 1; value 0]",
		"(f (a) (seq a (seq 1 a)))":   "[1 int := int #1; value 0]",
		"(f (a) (let a (+ a 1) (let b a (+ a b))))":                    "[1 int := int #1; 2 int := add 0 1; 3 int := add 2 2; value 3]",
		"(f (a) (+ (let a 5 a) a))":                                    "[1 int := int #5; 2 int := add 1 0; value 2]",
		"(f (a) (id (pick a true)))":                                   "[1 bool := bool #1; 2 v0 := call .1 (v0 bool) 0 1; 3 v0 := call .0 (v0) 2; value 3]",
		"(f (a) (Cons a (Nil)))":                                       "[1 (d0 v0) := make .0; 2 (d0 v0) := make .1 0 1; value 2]",
		"(f () (Blue))":                                                "[0 (d1) := make .2; value 0]",
		"(f (a b) (get 1 (tuple b a a)))":                              "[2 (* v1 v0 v0) := tuple 1 0 0; 3 v0 := get #1 2; value 3]",
		"(f (a b) (fn x (tuple a x b)))":                               "[4 (-> v2 (* v0 v2 v1)) := fn [bind 2; 3 (* v0 v2 v1) := tuple 0 2 1; value 3]; value 4]",
		"(f (a) (fn a (fn b a)))":                                      "[4 (-> v1 (-> v2 v1)) := fn [bind 1; 3 (-> v2 v1) := fn [bind 2; value 1]; value 3]; value 4]",
		"(f (g a) (call g (call g a)))":                                "[2 v0 := apply 0 1; 3 v0 := apply 0 2; value 3]",
		"(f (a) (let r (ref a) (seq (set r (deref r)) r)))":            "[1 (ref v0) := ref 0; 2 v0 := deref 1; 3 unit := set 1 2; value 1]",
		"(f (a) (let r (array 3 a) (seq (put r 0 (at r 1)) (len r))))": "[1 int := int #3; 2 (array v0) := array 1 0; 3 int := int #0; 4 int := int #1; 5 v0 := at 2 4; 6 unit := put 2 3 5; 7 int := len 2; value 7]",
		"(f (n) (raise no (- n 1)))":                                   "[1 int := int #1; 2 int := sub 0 1; 3 v0 := raise .3 2; value 3]",
		"(f (n) (/ n (% n 2)))":                                        "[1 int := int #2; 2 int := mod 0 1; 3 int := div 0 2; value 3]",
		"(f (n) (= n 2))":                                              "[1 int := int #2; 2 bool := eq 0 1; value 2]",
		"(f (n) (handle n))":                                           "[2 v0 := handle [value 0] [bind 1; value 1]; value 2]",
		"(f (n) (handle (+ 1 n) (why x (* x n)) (Div n n)))":           "[7 int := handle [1 int := int #1; 2 int := add 1 0; value 2] [bind 3; value 3] [exn 4; bind 4; 5 int := mul 4 0; value 5] [bind 6; value 6]; value 7]",
		"(f (l) (case l ((Cons x r) (case r ((Nil) x) ((Cons x y) x))) ((Nil) 0)))": "[7 int := case 0 [1 int := int #0; value 1] [bind 2 3; 6 int := case 3 [value 2] [bind 4 5; value 4]; value 6]; value 7]",
		"(f (c a) (case c ((Green) a) ((Blue) 3) ((Red) 1)))":                       "[4 int := case 0 [2 int := int #1; value 2] [value 1] [3 int := int #3; value 3]; value 4]",
		"(f (b) (if (if b false true) (tuple 1 b) (tuple 2 b)))":                    "[3 bool := if 0 [1 bool := bool #0; value 1] [2 bool := bool #1; value 2]; 8 (* int bool) := if 3 [4 int := int #1; 5 (* int bool) := tuple 4 0; value 5] [6 int := int #2; 7 (* int bool) := tuple 6 0; value 7]; value 8]",
		"(f (n) (if (< (f n) 1) (g n) (f 0)))":                                      "[1 int := call .2 0; 2 int := int #1; 3 bool := less 1 2; 7 int := if 3 [4 int := call .3 0; value 4] [5 int := int #0; 6 int := call .2 5; value 6]; value 7]",
	} {
		typed := typedOf(t, base, "(unit m (use lib) (funs "+text+" (g (n) n)) (fun main (n) n))")
		p := flattened(t, typed)
		if got := samples.BlockText(p.Funs[2].Body); got != want {
			t.Errorf("%s:\n%s, not\n%s", text, got, want)
		}
	}
}

// TestPrograms: what of a program stands outside of bodies.
func TestPrograms(t *testing.T) {
	typed := typedOf(t, base, "(unit m (use lib) (data d (b a) (C a b (-> a (array b)))) (exception last) (fun main (a b) b) (fun g (x l) (Cons x l)))")
	p := flattened(t, typed)
	if !reflect.DeepEqual(p.Datas, typed.Datas) || !reflect.DeepEqual(p.Exns, typed.Exns) || p.Main != 2 || len(p.Funs) != 4 {
		t.Errorf("%+v", p)
	}
	for i, f := range p.Funs {
		of := typed.Funs[i]
		if f.Name != of.Name || f.Unit != of.Unit || f.Types != of.Scheme.Vars || !reflect.DeepEqual(f.Result, of.Scheme.Result) {
			t.Errorf("%+v", f)
		}
		if len(f.Params) != len(of.Scheme.Params) || len(f.Params) > 0 && !reflect.DeepEqual(f.Params, of.Scheme.Params) {
			t.Errorf("%+v", f)
		}
	}
}

// TestUnused: fields that a kind does not use, and texts and places of any kind, are passed over.
func TestUnused(t *testing.T) {
	typed := typedOf(t, base, "(unit m (use lib) (fun main (n) (handle (case (Nil) ((Nil) (id (+ n 1))) ((Cons x r) x)) (no v (get 0 (tuple v n))))))")
	want := flattened(t, typed)
	eachExpr(&typed, func(e *api.Expr) {
		e.At = -5
		if e.Kind != api.ECall {
			e.Inst = []api.Type{{Kind: 77}}
		}
		if e.Kind != api.EInt && e.Kind != api.EGet {
			e.Int = 17
		}
		switch e.Kind {
		case api.EName, api.ECall, api.EMake:
		default:
			e.Name = "none"
		}
		if e.Kind == api.EName {
			e.Type = api.Type{Kind: 55}
		}
	})
	if got := flattened(t, typed); !reflect.DeepEqual(got, want) {
		t.Errorf("%s, not %s", samples.Write(got), samples.Write(want))
	}
}

// eachExpr goes through all expressions of a program.
func eachExpr(typed *api.Typed, visit func(e *api.Expr)) {
	var each func(e *api.Expr)
	each = func(e *api.Expr) {
		visit(e)
		for i := range e.Kids {
			each(&e.Kids[i])
		}
		for i := range e.Arms {
			each(&e.Arms[i].Body)
		}
	}
	for i := range typed.Funs {
		each(&typed.Funs[i].Body)
	}
}

// TestDoubleNames: of two names in one list the last one counts for variables, and the first one for functions, exceptions and constructors.
func TestDoubleNames(t *testing.T) {
	typed := typedOf(t, base, "(unit m (use lib) (fun f (x y) (case y ((Nil) x) ((Cons a b) b))) (fun main (n) 0))")
	typed.Exns = append(typed.Exns, "no")
	typed.Funs = append(typed.Funs, typed.Funs[0])
	f := &typed.Funs[2]
	f.Params[0], f.Scheme.Params[0] = "y", integer
	f.Scheme.Result = list(integer)
	f.Body.Kids[0].Type, f.Body.Type = list(integer), list(integer)
	f.Scheme.Params[1] = list(integer)
	f.Scheme.Vars = 0
	f.Body.Arms[0].Body.Name = "y"
	f.Body.Arms[1].Vars[0] = "b"
	p := flattened(t, typed)
	if got := samples.BlockText(p.Funs[2].Body); got != "[4 (d0 int) := case 1 [value 1] [bind 2 3; value 3]; value 4]" {
		t.Error(got)
	}
	f.Body = api.Expr{Kind: api.ERaise, Name: "no", Type: list(integer), Kids: []api.Expr{{Kind: api.ECall, Name: "id", Inst: []api.Type{integer}, Type: integer, Kids: []api.Expr{{Kind: api.EInt, Type: integer}}}}}
	p = flattened(t, typed)
	if got := samples.BlockText(p.Funs[2].Body); got != "[2 int := int #0; 3 int := call .0 (int) 2; 4 (d0 int) := raise .3 3; value 4]" {
		t.Error(got)
	}
	typed.Datas[0].Cons[1].Name = "Nil"
	checkFlatten(t, typed, api.OK)
	f.Body = api.Expr{Kind: api.EMake, Name: "Nil", Type: list(integer)}
	p = flattened(t, typed)
	if got := samples.BlockText(p.Funs[2].Body); got != "[2 (d0 int) := make .0; value 2]" {
		t.Error(got)
	}
	f.Body = api.Expr{Kind: api.ECase, Type: list(integer), Kids: []api.Expr{{Kind: api.EName, Name: "y", Type: list(integer)}}, Arms: []api.Arm{{Name: "Nil"}, {Name: "Nil", Vars: []string{"a", "b"}}}}
	checkFlatten(t, typed, api.ErrFlat)
}

var integer = api.Type{Kind: api.TInt}

func list(t api.Type) api.Type { return api.Type{Kind: api.TData, Args: []api.Type{t}} }

// TestNotWritten: programs that can't be written, and programs that Valid refuses.
func TestNotWritten(t *testing.T) {
	const text = "(unit m (use lib) (fun main (n) (handle (case (Cons n (Nil)) ((Nil) (id (+ n 1))) ((Cons x r) (call (fn y x) 0))) (no v (seq (raise why v) (get 0 (tuple v n)))))))"
	for what, change := range map[string]func(typed *api.Typed, e *api.Expr){
		"a name that is not found":          func(_ *api.Typed, e *api.Expr) { e.Kids[0].Kids[0].Kids[0].Name = "m" },
		"a name that is out of scope":       func(_ *api.Typed, e *api.Expr) { e.Kids[0].Kids[0].Kids[0].Name = "x" },
		"no such kind":                      func(_ *api.Typed, e *api.Expr) { e.Kids[0].Kids[0].Kids[0].Kind = 31 },
		"a kind below all":                  func(_ *api.Typed, e *api.Expr) { e.Kids[0].Kids[0].Kids[0].Kind = -1 },
		"a constructor that is not found":   func(_ *api.Typed, e *api.Expr) { e.Kids[0].Kids[0].Name = "Red" },
		"a constructor of no data type":     func(_ *api.Typed, e *api.Expr) { e.Kids[0].Kids[0].Type = integer },
		"a data type that is none":          func(_ *api.Typed, e *api.Expr) { e.Kids[0].Kids[0].Type.N = 2 },
		"a data type below all":             func(_ *api.Typed, e *api.Expr) { e.Kids[0].Kids[0].Type.N = -1 },
		"another data type":                 func(_ *api.Typed, e *api.Expr) { e.Kids[0].Kids[0].Type.N = 1 },
		"a function that is not found":      func(_ *api.Typed, e *api.Expr) { e.Kids[0].Arms[0].Body.Name = "di" },
		"another instance":                  func(_ *api.Typed, e *api.Expr) { e.Kids[0].Arms[0].Body.Inst[0] = list(integer) },
		"too many instances":                func(_ *api.Typed, e *api.Expr) { e.Kids[0].Arms[0].Body.Inst = make([]api.Type, 2) },
		"a kid too much":                    func(_ *api.Typed, e *api.Expr) { e.Kids[0].Arms[0].Body.Kids[0].Kids = make([]api.Expr, 3) },
		"a kid too few":                     func(_ *api.Typed, e *api.Expr) { e.Kids[0].Arms[0].Body.Kids[0].Kids = make([]api.Expr, 1) },
		"an argument too much":              func(_ *api.Typed, e *api.Expr) { e.Kids[0].Arms[0].Body.Kids = make([]api.Expr, 2) },
		"a tuple of one":                    func(_ *api.Typed, e *api.Expr) { tup := &e.Arms[0].Body.Kids[1].Kids[0]; tup.Kids = tup.Kids[:1] },
		"a kid of a name":                   func(_ *api.Typed, e *api.Expr) { e.Kids[0].Kids[0].Kids[0].Kids = make([]api.Expr, 1) },
		"an arm of a sum":                   func(_ *api.Typed, e *api.Expr) { e.Kids[0].Arms[0].Body.Kids[0].Arms = make([]api.Arm, 1) },
		"an exception that is not found":    func(_ *api.Typed, e *api.Expr) { e.Arms[0].Body.Kids[0].Name = "yes" },
		"an arm's exception":                func(_ *api.Typed, e *api.Expr) { e.Arms[0].Name = "yes" },
		"two arms of an exception":          func(_ *api.Typed, e *api.Expr) { e.Arms = append(e.Arms, e.Arms[0]) },
		"an arm of a handle without a name": func(_ *api.Typed, e *api.Expr) { e.Arms[0].Vars = nil },
		"an arm of a handle with two names": func(_ *api.Typed, e *api.Expr) { e.Arms[0].Vars = append(e.Arms[0].Vars, "w") },
		"an arm of a case with a name more": func(_ *api.Typed, e *api.Expr) { e.Kids[0].Arms[1].Vars = []string{"x", "r", "z"} },
		"a case without one of its arms":    func(_ *api.Typed, e *api.Expr) { e.Kids[0].Arms = e.Kids[0].Arms[1:] },
		"a case with an arm twice":          func(_ *api.Typed, e *api.Expr) { e.Kids[0].Arms[0].Name = "Cons" },
		"a case with another's arm":         func(_ *api.Typed, e *api.Expr) { e.Kids[0].Arms = append(e.Kids[0].Arms, api.Arm{Name: "Red"}) },
		"a case with an arm more":           func(_ *api.Typed, e *api.Expr) { e.Kids[0].Arms = append(e.Kids[0].Arms, e.Kids[0].Arms[0]) },
		"a case of an int":                  func(_ *api.Typed, e *api.Expr) { e.Kids[0].Kids[0] = e.Kids[0].Kids[0].Kids[0] },
		"a handle without a kid":            func(_ *api.Typed, e *api.Expr) { e.Kids = nil },
		"a handle with two kids":            func(_ *api.Typed, e *api.Expr) { e.Kids = append(e.Kids, e.Kids[0]) },
		"another type":                      func(_ *api.Typed, e *api.Expr) { e.Type = list(integer) },
		"a part that is none":               func(_ *api.Typed, e *api.Expr) { e.Arms[0].Body.Kids[1].Int = 2 },
		"a parameter too few":               func(typed *api.Typed, _ *api.Expr) { typed.Funs[0].Params = nil },
		"a parameter too much":              func(typed *api.Typed, _ *api.Expr) { typed.Funs[1].Params = make([]string, 3) },
		"another main":                      func(typed *api.Typed, _ *api.Expr) { typed.Main = 0 },
		"no main":                           func(typed *api.Typed, _ *api.Expr) { typed.Main = 7 },
		"other exceptions":                  func(typed *api.Typed, _ *api.Expr) { typed.Exns[1] = "Inde" },
		"a scheme with regions":             func(typed *api.Typed, _ *api.Expr) { typed.Funs[0].Scheme.Params[0].Region = 1 },
		"a scheme with an effect":           func(typed *api.Typed, _ *api.Expr) { typed.Funs[0].Scheme.Result.Effect.Vars = []int{0} },
		"a type with a name":                func(_ *api.Typed, e *api.Expr) { e.Type.Name = "a" },
		"no constructors":                   func(typed *api.Typed, _ *api.Expr) { typed.Datas[1].Cons = nil },
		"too many type variables":           func(typed *api.Typed, _ *api.Expr) { typed.Funs[0].Scheme.Vars = api.MaxNodes + 1 },
	} {
		typed := typedOf(t, base, text)
		flattened(t, typed)
		change(&typed, &typed.Funs[typed.Main].Body)
		if _, e := flat.Flatten(typed); e != api.ErrFlat {
			t.Errorf("%s: %d", what, e)
		}
		// What can't be written is that, too, in a program that is too big.
		_, e := flat.Flatten(withBig(typed))
		written := strings.Contains("another instance, too many instances, an argument too much, two arms of an exception, an arm of a case with a name more, another type, a part that is none, another main, no main, other exceptions, a scheme with regions, a scheme with an effect, a type with a name, no constructors, too many type variables", what)
		if written && e != api.ErrBig || !written && e != api.ErrFlat {
			t.Errorf("%s, in a program that is too big: %d", what, e)
		}
	}
	checkFlatten(t, withBig(typedOf(t, base, text)), api.ErrBig)
	checkFlatten(t, api.Typed{}, api.ErrFlat)
}

// withBig is the program with one more data type, of too many nodes.
func withBig(typed api.Typed) api.Typed {
	typed.Datas = append(typed.Datas[:len(typed.Datas):len(typed.Datas)], api.Data{Name: "big", Cons: []api.Con{{Name: "Big", Fields: make([]api.Type, api.MaxNodes)}}})
	return typed
}

// TestNewMemory: Flatten changes nothing, and its result shares nothing with its argument.
func TestNewMemory(t *testing.T) {
	for seed := range 30 {
		typed, same := typedOf(t, samples.Texts(seed)...), typedOf(t, samples.Texts(seed)...)
		p := flattened(t, typed)
		if !reflect.DeepEqual(typed, same) {
			t.Fatalf("%d: the argument is changed", seed)
		}
		again := flattened(t, typed)
		spoilAll(reflect.ValueOf(&p).Elem())
		if !reflect.DeepEqual(typed, same) {
			t.Fatalf("%d: the result is a part of the argument", seed)
		}
		flat.Valid(again)
		flat.Run(again, []int64{1, 2}, plenty)
		if !reflect.DeepEqual(again, flattened(t, same)) {
			t.Fatalf("%d: Valid or Run change their argument", seed)
		}
	}
}

// spoilAll changes every number and text of a value, at all depths.
func spoilAll(v reflect.Value) {
	switch v.Kind() {
	case reflect.Struct:
		for i := range v.NumField() {
			spoilAll(v.Field(i))
		}
	case reflect.Slice:
		for i := range v.Len() {
			spoilAll(v.Index(i))
		}
	case reflect.Int, reflect.Int64:
		v.SetInt(99)
	case reflect.String:
		v.SetString("spoiled")
	}
}

// TestDeepTrees: expressions that are nested much deeper than blocks may be.
func TestDeepTrees(t *testing.T) {
	typed := typedOf(t, "(unit m (fun main (n) n))")
	body := &typed.Funs[0].Body
	nested := func(levels int, around func(e api.Expr) api.Expr) {
		*body = api.Expr{Kind: api.EName, Name: "n"}
		for range levels {
			*body = around(*body)
		}
	}
	nested(1<<16-10, func(e api.Expr) api.Expr {
		return api.Expr{Kind: api.ELet, Name: "n", Kids: []api.Expr{e, {Kind: api.EName, Name: "n"}}}
	})
	if got := samples.BlockText(flattened(t, typed).Funs[0].Body); got != "[value 0]" {
		t.Errorf("%s", got)
	}
	print := func(e api.Expr) api.Expr {
		return api.Expr{Kind: api.ESub, Type: integer, Kids: []api.Expr{e, {Kind: api.EName, Name: "n"}}}
	}
	most := (api.MaxNodes - 4) / 2
	nested(most, print)
	if got := flattened(t, typed).Funs[0].Body.Value; got != most {
		t.Errorf("%d", got)
	}
	nested(most+1, print)
	checkFlatten(t, typed, api.ErrBig)
	nested(1<<16-10, print)
	checkFlatten(t, typed, api.ErrBig)
	lambda := func(e api.Expr) api.Expr {
		return api.Expr{Kind: api.EHandle, Type: integer, Kids: []api.Expr{e}}
	}
	nested(api.MaxDepth-1, lambda)
	checkFlatten(t, typed, api.OK)
	nested(api.MaxDepth, lambda)
	checkFlatten(t, typed, api.ErrBig)
	nested(1<<16-10, lambda)
	checkFlatten(t, typed, api.ErrBig)
}

// TestParameters: as many names as types, whether they are used or not.
func TestParameters(t *testing.T) {
	for count, want := range []api.Errno{api.ErrFlat, api.OK, api.ErrFlat, api.ErrFlat} {
		typed := typedOf(t, "(unit m (fun f (a) 5) (fun main (n) n))")
		typed.Funs[0].Params = make([]string, count)
		checkFlatten(t, typed, want)
		if want == api.ErrFlat {
			checkFlatten(t, withBig(typed), want)
		}
	}
}

// TestNoSteps: names have no steps, as many as there are.
func TestNoSteps(t *testing.T) {
	typed := typedOf(t, "(unit m (fun main (n) n))")
	typed.Funs[0].Body = doubled(18, typed.Funs[0].Body)
	if got := samples.BlockText(flattened(t, typed).Funs[0].Body); got != "[value 0]" {
		t.Error(got)
	}
}

// TestManyParameters: a function may have as many variables as there are numbers.
func TestManyParameters(t *testing.T) {
	typed := typedOf(t, base, "(unit m (use lib) (fun f (a) 5) (fun main (n) n))")
	f := &typed.Funs[2]
	for i := range 8000 {
		f.Params = append(f.Params, "p"+strconv.Itoa(i))
		f.Scheme.Params = append(f.Scheme.Params, integer)
	}
	if got := flattened(t, typed).Funs[2].Body.Value; got != 8001 {
		t.Errorf("%d", got)
	}
}

// TestManyBinds: variables have numbers below MaxNodes, also where the program has few nodes.
func TestManyBinds(t *testing.T) {
	const fields = 2000
	data := api.Data{Name: "d", Cons: []api.Con{{Name: "C", Fields: make([]api.Type, fields)}}}
	typed := typedOf(t, "(unit m (fun main (n) n))")
	typed.Datas = []api.Data{data}
	of := api.Type{Kind: api.TData}
	typed.Funs = append(typed.Funs, api.TypedFun{Params: []string{"c"}, Scheme: api.Scheme{Params: []api.Type{of}, Result: of}})
	body := &typed.Funs[1].Body
	build := func(cases, handles int) {
		*body = api.Expr{Kind: api.EName, Name: "c"}
		for range cases {
			arm := api.Arm{Name: "C", Vars: make([]string, fields), Body: *body}
			*body = api.Expr{Kind: api.ECase, Type: of, Kids: []api.Expr{{Kind: api.EName, Name: "c", Type: of}}, Arms: []api.Arm{arm}}
		}
		for range handles {
			*body = api.Expr{Kind: api.EHandle, Type: of, Kids: []api.Expr{*body}}
		}
	}
	build(8, 40)
	checkFlatten(t, typed, api.OK)
	build(9, 0)
	checkFlatten(t, typed, api.ErrFlat)
}
