package flat_test

import (
	"strconv"
	"strings"
	"testing"

	"heriot/api"
	"heriot/flat"
	"heriot/samples"
)

func times(count int, text string) string { return strings.Repeat(text, count) }

// TestMostNodes: what is a node, and how many there may be.
func TestMostNodes(t *testing.T) {
	for own, nodes := range map[string]int{
		"":                                0,
		"data a 0 = A | B; data b 1 = C;": 0,
		"fun f (int) (-> int int) [9 (-> int int) := fn [bind 1; value 0]; value 9];": 11,
		"exn a; exn b;":                        0,
		"data a 1 = A v0;":                     1,
		"data a 1 = A v0 | B (ref (* v0 v0));": 5,
		"fun f (int) int [value 0];":           4,
		"fun f 3 (int (-> v0 (ref v1))) (ref int) [9 (ref int) := raise .0 0; value 9];":                           12,
		"fun f () int [9 int := int; value 9];":                                                                    5,
		"fun f 2 (int) int [9 int := call .0 (int (ref v1)) 0; value 9];":                                          9,
		"fun f (bool) int [1 int := int; 3 int := if 0 [value 1] [value 1]; value 3];":                             10,
		"fun f (bool) int [3 int := if 0 [1 int := int; value 1] [2 int := int; value 2]; 4 int := int; value 4];": 14,
		"fun f (int) int [9 int := handle [8 int := int; value 8] [bind 2; value 2] [bind 3; value 3]; value 9];":  11,
	} {
		filled := own + someMain + "data fill 0 = F " + times(api.MaxNodes-nodes-4, "int ")
		checkValid(t, filled+";", api.OK)
		checkValid(t, filled+"int;", api.ErrBig)
	}
	// Programs that are too big are that ahead of all else; what they have beside counts as well.
	steps := (api.MaxNodes - 3) / 2
	checkValid(t, "fun main () int ["+times(steps, "new @0; ")+"value 0]", api.ErrFlat)
	checkValid(t, "fun main () int ["+times(steps+1, "new @0; ")+"value 0]", api.ErrBig)
	checkValid(t, "fun main () bool [0 bool := int ("+times(api.MaxNodes-5, "int ")+"); value 0]", api.ErrFlat)
	checkValid(t, "fun main () bool [0 bool := int ("+times(api.MaxNodes-4, "int ")+"); value 0]", api.ErrBig)
	checkValid(t, "fun main ("+times(api.MaxNodes-3, "int ")+") int [value 0]", api.ErrFlat)
	checkValid(t, "fun main ("+times(api.MaxNodes-2, "int ")+") int [value 0]", api.ErrBig)
	checkValid(t, times(api.MaxNodes/3, "fun f () int [value 0];")+"data a 0 = A int;", api.ErrFlat)
	checkValid(t, times(api.MaxNodes/3+1, "fun f () int [value 0];"), api.ErrBig)
}

// nestedIfs are blocks inside each other, so many, in main.
func nestedIfs(depth int) string {
	text := "value 0"
	for i := range depth - 1 {
		v := strconv.Itoa(2 * (i + 1))
		text = strconv.Itoa(2*i+1) + " bool := bool; " + v + " int := if " + strconv.Itoa(2*i+1) + " [" + text + "] [value 0]; value " + v
	}
	return "fun main (int) int [" + text + "]"
}

// nestedRefs is a type that is nested so deep.
func nestedRefs(depth int) string {
	return times(depth-1, "(ref ") + "int" + times(depth-1, ")")
}

func TestDeepest(t *testing.T) {
	checkValid(t, nestedIfs(api.MaxDepth), api.OK)
	checkValid(t, nestedIfs(api.MaxDepth+1), api.ErrBig)
	// What is behind the first block that is too deep, inside and outside, is not looked at any more.
	checkValid(t, strings.ReplaceAll(nestedIfs(api.MaxDepth+1), "; value ", "; 5000 int := int; value "), api.ErrBig)
	most, more := nestedRefs(api.MaxDepth), nestedRefs(api.MaxDepth+1)
	for _, text := range []string{
		"data a 0 = A TYPE;",
		"fun f (TYPE) int [1 int := int; value 1];",
		"fun f (int) TYPE [1 TYPE := raise .0 0; value 1];",
		"fun f (int) int [1 TYPE := raise .0 0; value 0];",
		"fun f 1 (int) int [1 int := int; value 1]; fun g (int) int [1 int := call .0 (TYPE) 0; value 1];",
		"fun f (int) int [1 int := handle [2 TYPE := raise .0 0; value 2] [bind 3; value 0]; value 0];",
	} {
		checkValid(t, strings.ReplaceAll(text, "TYPE", most)+someMain, api.OK)
		checkValid(t, strings.ReplaceAll(text, "TYPE", more)+someMain, api.ErrBig)
	}
	checkValid(t, "fun main ("+more+") bool [value 7]", api.ErrBig)
}

// TestEndless: plain data whose lists have themselves as parts.
func TestEndless(t *testing.T) {
	parts := make([]api.Type, 2)
	parts[0] = api.Type{Kind: api.TRef, Args: parts}
	parts[1] = parts[0]
	blocks := make([]api.Block, 1)
	blocks[0].Steps = []api.Step{{Op: api.OIf, Blocks: blocks}}
	kids := make([]api.Expr, 2)
	kids[0] = api.Expr{Kind: api.ETuple, Kids: kids}
	kids[1] = kids[0]
	for _, f := range []api.Fun{{Params: parts}, {Result: parts[0]}, {Body: blocks[0]}, {Body: api.Block{Steps: []api.Step{{Type: parts[0]}}}}} {
		p := samples.Program(someMain)
		p.Funs = append(p.Funs, f)
		if got := flat.Valid(p); got != api.ErrBig {
			t.Errorf("%d", got)
		}
		if got := flat.Run(p, []int64{0}, 0); !isSame(got, stuck) {
			t.Errorf("%+v", got)
		}
	}
	typed := typedOf(t, "(unit m (fun main (n) n))")
	typed.Funs[0].Body = kids[0]
	checkFlatten(t, typed, api.ErrBig)
	typed.Funs[0].Body = api.Expr{Kind: api.EInt, Type: parts[0]}
	checkFlatten(t, typed, api.ErrBig)
	typed.Funs[0].Body = doubled(60, api.Expr{Kind: api.EName, Name: "n"})
	checkFlatten(t, typed, api.ErrBig)
}

// doubled is a tree of so many levels whose leaves are an expression.
func doubled(levels int, leaf api.Expr) api.Expr {
	for range levels {
		leaf = api.Expr{Kind: api.ESeq, Kids: []api.Expr{leaf, leaf}}
	}
	return leaf
}

// checkFlatten asks for an error, and no program with it.
func checkFlatten(t *testing.T, typed api.Typed, want api.Errno) {
	t.Helper()
	p, e := flat.Flatten(typed)
	if e != want {
		t.Errorf("Flatten: %d, not %d", e, want)
	}
	if e != api.OK && (p.Datas != nil || p.Exns != nil || p.Funs != nil || p.Main != 0) {
		t.Error("Flatten: a program together with an error")
	}
}

// tuple is a type of so many nodes.
func tuple(nodes int) string { return "(* " + times(nodes-1, "int ") + ")" }

// TestTooLarge: types of what a case binds that stand nowhere in the program.
func TestTooLarge(t *testing.T) {
	const box = "data box 1 = Box (ref v0); data two 1 = Two (* v0 v0) | No; "
	open := func(data, arg, blocks string) string {
		return box + "fun f ((" + data + " " + arg + ") int) int [9 int := case 0 " + blocks + "; value 9]; " + someMain
	}
	const one, two = "[bind 2; value 1]", "[bind 2; value 1] [value 1]"
	checkValid(t, open("d0", tuple(255), one), api.OK)
	checkValid(t, open("d0", tuple(256), one), api.ErrBig)
	checkValid(t, open("d1", tuple(127), two), api.OK)
	checkValid(t, open("d1", tuple(128), two), api.ErrBig)
	checkValid(t, open("d0", nestedRefs(62), one), api.OK)
	checkValid(t, open("d0", nestedRefs(63), one), api.OK)
	// The data type itself is nested one deeper than its part, and as deep as what it binds.
	checkValid(t, box+"data deep 1 = Deep (ref (ref v0)); fun f ((d2 "+nestedRefs(62)+") int) int [9 int := case 0 "+one+"; value 9]; "+someMain, api.OK)
	checkValid(t, box+"data deep 1 = Deep (ref (ref v0)); fun f ((d2 "+nestedRefs(63)+") int) int [9 int := case 0 "+one+"; value 9]; "+someMain, api.ErrBig)
	// What the function has already may be larger.
	checkValid(t, box+"fun f ("+tuple(300)+" int) int [9 int := int; value 9]; "+someMain, api.OK)
	checkValid(t, box+"data big 0 = Big "+tuple(257)+"; fun f ((d2) int) int [9 int := case 0 "+one+"; value 9]; "+someMain, api.ErrBig)
	// A field is refused where a case binds it, not where it is made.
	checkValid(t, box+"data big 0 = Big "+tuple(257)+"; fun f ("+tuple(257)+") (d2) [1 (d2) := make .0 0; value 1]; "+someMain, api.OK)
}

// TestTooLargeOrder: what is ahead of a case with a type that is too large, and what is behind.
func TestTooLargeOrder(t *testing.T) {
	const big = "data two 1 = Two (* v0 v0) int | No; "
	param := "(d0 " + tuple(128) + ")"
	for text, want := range map[string]api.Errno{
		"fun f (P int) int [9 int := case 0 [bind 2 3; value 1] [value 1]; value 9];":                                                                       api.ErrBig,
		"fun f (P int) int [9 int := case 0 [bind 2 3; value 7] [value 7]; value 7];":                                                                       api.ErrBig,
		"fun f (P int) bool [9 int := case 0 [bind 0 0; 3 int := int .5; value 1] [value 1]; value 9];":                                                     api.ErrBig,
		"fun f (P int) int [9 int := case 0 [bind 2 3; value 1] [value 1]; 10 int := int 5; value 9];":                                                      api.ErrBig,
		"fun f (P int) int [9 int := case 0 [bind 2 3; value 1]; value 9];":                                                                                 api.ErrFlat,
		"fun f (P int) int [9 int := case 0 [bind 2; value 1] [value 1]; value 9];":                                                                         api.ErrFlat,
		"fun f (P int) int [9 int := case 0 [bind 2 3; value 1] [bind 4; value 1]; value 9];":                                                               api.ErrFlat,
		"fun f (P int) int [9 int := case 1 [bind 2 3; value 1] [value 1]; value 9];":                                                                       api.ErrFlat,
		"fun f (P int) int [9 int := case 5 [bind 2 3; value 1] [value 1]; value 9];":                                                                       api.ErrFlat,
		"fun f (P int) int [9 int := case 0 .1 [bind 2 3; value 1] [value 1]; value 9];":                                                                    api.ErrFlat,
		"fun f (P int) int [9 v0 := case 0 [bind 2 3; value 1] [value 1]; value 1];":                                                                        api.ErrFlat,
		"fun f (P int) int [8 int := int 1; 9 int := case 0 [bind 2 3; value 1] [value 1]; value 9];":                                                       api.ErrFlat,
		"fun g (int) int [value 1]; fun f (P int) int [9 int := case 0 [bind 2 3; value 1] [value 1]; value 9];":                                            api.ErrFlat,
		"fun f (P int) int [9 int := case 0 [bind 2 3; value 1] [value 1]; value 9]; fun g (int) int [value 1];":                                            api.ErrBig,
		"fun f (P int) int [9 int := case 0 [bind 2 3; value 1] [value 1]; value 9]; fun g (v0) int [1 int := int; value 1];":                               api.ErrFlat,
		"fun f (P int) int [9 int := case 0 [bind 2 3; value 1] [value 1]; value 9]; data bad 0 = A v0;":                                                    api.ErrFlat,
		"fun f (P bool int) int [9 int := if 1 [7 int := case 0 [bind 3 4; value 2] [value 2]; value 7] [value 6]; value 9];":                               api.ErrBig,
		"fun f (P bool int) int [9 int := if 1 [value 6] [7 int := case 0 [bind 3 4; value 2] [value 2]; value 7]; value 9];":                               api.ErrFlat,
		"fun f (P bool int) int [9 int := if 1 [value 1] [7 int := case 0 [bind 3 4; value 2] [value 2]; value 7]; value 9];":                               api.ErrFlat,
		"fun f (P int) int [9 int := handle [7 int := case 0 [bind 3 4; value 1] [value 1]; value 7] [value 1]; value 9];":                                  api.ErrFlat,
		"fun f (P int) int [9 int := handle [7 int := case 0 [bind 3 4; value 1] [value 1]; value 7] [bind 5; value 0]; value 9];":                          api.ErrBig,
		"fun f (P int) int [9 int := handle [7 int := case 0 [bind 3 4; value 1] [value 1]; value 7] [bind 5; value 5] [exn 9; bind 2; value 2]; value 9];": api.ErrFlat,
	} {
		checkValid(t, big+strings.ReplaceAll(text, "P", param)+someMain, want)
	}
}

// TestDoubling: what Infer finds may be too big for a flat program (P4.2).
func TestDoubling(t *testing.T) {
	const nest = "(unit l (data pair (a b) (Pair a b)) (data nest (a) (End) (More a (nest (pair a a)))))"
	text := func(depth int) string {
		body := "0"
		for range depth {
			body = "(case x ((End) 1) ((More v x) " + body + "))"
		}
		return "(unit m (use l) (fun main (n) (let x (More n (End)) " + body + ")))"
	}
	for depth, want := range map[int]api.Errno{1: api.OK, 7: api.OK, 8: api.ErrBig} {
		checkFlatten(t, typedOf(t, nest, text(depth)), want)
	}
}

// TestTooManyNodes: a program whose steps have more types than its expressions are.
func TestTooManyNodes(t *testing.T) {
	main := func(count int) string {
		return "(unit m (fun main (n) (let x (tuple" + times(99, " 1") + ") (seq " + refs(count) + " n))))"
	}
	checkFlatten(t, typedOf(t, main(150)), api.OK)
	checkFlatten(t, typedOf(t, main(170)), api.ErrBig)
}

// refs is an expression that makes a ref of x so many times.
func refs(count int) string {
	if count == 1 {
		return "(ref x)"
	}
	return "(seq " + refs(count/2) + " " + refs(count-count/2) + ")"
}

// TestMostFlattened: programs that are as big, or nested as deep, as they may be.
func TestMostFlattened(t *testing.T) {
	for _, text := range []string{
		"(unit m (fun main (n) n))",
		"(unit m (fun main (n) (handle (handle (+ n 1) (Div x x)) (Index y y))))",
		"(unit m (data list (a) (Nil) (Cons a (list a))) (fun g2 (g x) (call g x)) (fun f (l g) (case l ((Nil) (g2 g 1)) ((Cons x r) (call g x)))) (fun main (n) (if (< n 1) (f (Cons n (Nil)) (fn x (+ x 1))) 7)))",
	} {
		typed := typedOf(t, text)
		nodes, _ := sizeOf(flattened(t, typed))
		fill := api.Con{Name: "Fill", Fields: make([]api.Type, api.MaxNodes-nodes)}
		typed.Datas = append(typed.Datas, api.Data{Name: "fill", Cons: []api.Con{fill}})
		checkFlatten(t, typed, api.OK)
		typed.Datas[len(typed.Datas)-1].Cons[0].Fields = append(fill.Fields, api.Type{})
		checkFlatten(t, typed, api.ErrBig)
	}
	deep := func(levels int) api.Type {
		of := api.Type{}
		for range levels - 1 {
			of = api.Type{Kind: api.TRef, Args: []api.Type{of}}
		}
		return of
	}
	for _, change := range []func(typed *api.Typed, of api.Type){
		func(typed *api.Typed, of api.Type) { typed.Datas[0].Cons[0].Fields[0] = of },
		func(typed *api.Typed, of api.Type) {
			typed.Funs[0].Scheme.Params[0], typed.Funs[0].Scheme.Vars = of, 0
			typed.Funs[0].Scheme.Result, typed.Funs[0].Body.Type = of, of
		},
		func(typed *api.Typed, of api.Type) {
			raise := &typed.Funs[1].Body.Kids[0].Kids[0]
			raise.Type, typed.Funs[1].Body.Kids[0].Type, typed.Funs[1].Body.Kids[0].Inst[0] = of, of, of
		},
	} {
		for levels, want := range map[int]api.Errno{api.MaxDepth: api.OK, api.MaxDepth + 1: api.ErrBig} {
			typed := typedOf(t, "(unit m (data d () (C int)) (fun id (x) x) (fun main (n) (seq (id (raise Div n)) n)))")
			change(&typed, deep(levels))
			if len(typed.Funs[0].Scheme.Params[0].Args) > 0 {
				typed.Funs[1].Body = api.Expr{Kind: api.EName, Name: "n"}
			}
			checkFlatten(t, typed, want)
		}
	}
}
