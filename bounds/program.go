package bounds

import (
	"heriot/api"
	"heriot/outline"
)

// program is a program that the checker takes, with what is known of its functions.
type program struct {
	*api.Program
	texts map[int]*text
}

// text is a function that is made ready for walks.
type text struct {
	*api.Fun
	types    map[int]*api.Type   // of its variables
	closures map[*api.Step]int64 // the words of the closures that it makes
	used     map[int]bool        // the variables that stand somewhere beside where they are bound
}

func newProgram(p *api.Program) *program { return &program{p, map[int]*text{}} }

func (w *program) textOf(fun int) *text {
	if w.texts[fun] == nil {
		f := &w.Funs[fun]
		w.texts[fun] = &text{f, outline.TypesOf(w.Program, f), closuresOf(w.Program, f), usedIn(f)}
	}
	return w.texts[fun]
}

// closuresOf are the words of the closures that a function makes.
func closuresOf(p *api.Program, f *api.Fun) map[*api.Step]int64 {
	out := map[*api.Step]int64{}
	for s, handles := range outline.Handles(p, f) {
		out[s] = int64(1 + outline.Captures(&s.Blocks[0]) + len(handles))
	}
	return out
}

func usedIn(f *api.Fun) map[int]bool {
	out := map[int]bool{f.Body.Value: true}
	for _, s := range outline.Steps(&f.Body) {
		for _, v := range s.Args {
			out[v] = true
		}
		for i := range s.Blocks {
			out[s.Blocks[i].Value] = true
		}
	}
	return out
}

// levelsOf is how many levels a type has.
func levelsOf(t *api.Type) int {
	if t.Kind != api.TArrow {
		return 0
	}
	return 1 + levelsOf(&t.Args[1])
}

// isCompound tells whether values of a type are parts whose sizes count in what they are parts of.
func isCompound(t *api.Type) bool { return t.Kind == api.TTuple || t.Kind == api.TData }

// isSized tells whether values of a type may have a size above 0.
func isSized(t *api.Type) bool {
	return isCompound(t) || t.Kind == api.TInt || t.Kind == api.TArray
}

// variablesOf is how many variables the certificates for a subject have.
func (w *program) variablesOf(s subject) int {
	f := &w.Funs[s.fun]
	count := len(f.Params) + len(s.mine)
	for i := range f.Params {
		count += levelsOf(&f.Params[i])
	}
	return count
}
