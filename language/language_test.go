// Package language_test holds the files of all packages against the rules of the program's language that can be seen in a file alone.
package language_test

import (
	"go/ast"
	"go/parser"
	"go/token"
	"os"
	"path/filepath"
	"slices"
	"strconv"
	"strings"
	"testing"
)

// library are the packages of Go's library that the program may import.
const library = "bytes cmp container/heap errors iter maps math math/bits slices sort strconv strings sync sync/atomic unicode unicode/utf8"

// longest is how many lines a function has at most.
const longest = 60

// source is a file, with what its package has at package level.
type source struct {
	*testing.T
	*ast.File
	set       *token.FileSet
	variables map[string]bool
}

// sources are the files of all packages that are not tests.
func sources(t *testing.T) []source {
	paths, err := filepath.Glob("../*/*.go")
	if err != nil {
		t.Fatal(err)
	}
	var out []source
	for _, path := range paths {
		if strings.HasSuffix(path, "_test.go") || strings.HasPrefix(path, "../sharedtests/") {
			continue
		}
		text, err := os.ReadFile(path)
		if err != nil {
			t.Fatal(err)
		}
		out = append(out, parsed(t, path, string(text)))
	}
	return out
}

func parsed(t *testing.T, path, text string) source {
	t.Helper()
	set := token.NewFileSet()
	file, err := parser.ParseFile(set, path, text, parser.ParseComments)
	if err != nil {
		t.Fatal(err)
	}
	return source{t, file, set, map[string]bool{}}
}

// faults are what is against the rules in a file.
func (s source) faults() []string {
	var out []string
	say := func(at ast.Node, what string) { out = append(out, s.set.Position(at.Pos()).String()+": "+what) }
	for _, i := range s.Imports {
		path, _ := strconv.Unquote(i.Path.Value)
		if !slices.Contains(strings.Fields(library), path) && !strings.HasPrefix(path, "heriot/") {
			say(i, "imports "+path)
		}
	}
	for _, group := range s.Comments {
		for _, c := range group.List {
			if strings.HasPrefix(c.Text, "//go:") {
				say(c, "a directive")
			}
		}
	}
	for _, d := range s.Decls {
		switch d := d.(type) {
		case *ast.FuncDecl:
			if s.set.Position(d.End()).Line-s.set.Position(d.Pos()).Line >= longest {
				say(d, "a long function")
			}
		case *ast.GenDecl:
			if d.Tok == token.VAR {
				s.variable(d, say)
			}
		}
	}
	return out
}

// variable looks at variables at package level: their values are written out.
func (s source) variable(d *ast.GenDecl, say func(ast.Node, string)) {
	for _, spec := range d.Specs {
		v := spec.(*ast.ValueSpec)
		if len(v.Values) != len(v.Names) {
			say(v, "a variable without a value")
		}
		for _, value := range v.Values {
			s.value(value, say)
		}
		for _, name := range v.Names {
			s.variables[name.Name] = true
		}
	}
}

func (s source) value(value ast.Expr, say func(ast.Node, string)) {
	if text, ok := value.(*ast.BasicLit); ok && text.Kind == token.STRING {
		say(value, "a text that is no constant")
	}
	ast.Inspect(value, func(n ast.Node) bool {
		switch n := n.(type) {
		case *ast.CallExpr:
			if of, ok := n.Fun.(*ast.SelectorExpr); !ok || of.Sel.Name != "New" {
				say(n, "a value computed by a call")
			}
		case *ast.FuncLit:
			say(n, "a function as a value")
		case *ast.MapType:
			say(n, "a map")
		case *ast.UnaryExpr:
			if n.Op == token.AND {
				say(n, "a pointer")
			}
		case *ast.BasicLit:
			if n.Kind == token.FLOAT {
				say(n, "a float")
			}
		case *ast.Ident:
			if s.variables[n.Name] {
				say(n, "a value of another variable")
			}
		}
		return true
	})
}

func TestFiles(t *testing.T) {
	all := sources(t)
	if len(all) < 20 {
		t.Fatalf("only %d files were found", len(all))
	}
	for _, s := range all {
		for _, fault := range s.faults() {
			t.Error(fault)
		}
	}
}

// TestFaults: what is against the rules is seen.
func TestFaults(t *testing.T) {
	for text, want := range map[string]int{
		`import "errors"; var e = errors.New("e"); var a = [...]string{"a"}; const b = "b"; type t struct{ n int }; var c = t{1}`: 0,
		`import "fmt"`:                                       1,
		`import "os"; import "strings"`:                      1,
		"//go:noinline\nfunc f() {}":                         1,
		`var a = f()`:                                        1,
		`var a = []int{f(1), 2, g(3)}`:                       2,
		`var a int`:                                          1,
		`var a = "text"`:                                     1,
		`var a = map[int]bool{}`:                             1,
		`var a = func() {}`:                                  1,
		`var a = []float64{1.5}`:                             1,
		`var ( a = 1; b = [2]int{a} )`:                       1,
		`var a = 1; var b = &a`:                              2,
		"func f() {" + strings.Repeat("\n", longest-1) + "}": 0,
		"func f() {" + strings.Repeat("\n", longest) + "}":   1,
	} {
		if got := parsed(t, "file.go", "package p\n"+text).faults(); len(got) != want {
			t.Errorf("%s: %q, not %d faults", text, got, want)
		}
	}
}
