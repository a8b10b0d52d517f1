package place_test

import (
	"math/rand"
	"slices"
	"strings"
	"testing"

	"heriot/api"
	"heriot/flat"
	"heriot/place"
	"heriot/samples"
	"heriot/steps"
	"heriot/types"
	"heriot/words"
)

// library is what the programs of these tests have ahead of their functions, and placedLibrary is the same where regions are found.
const (
	library       = `data list 1 = Nil | Cons v0 (d0 v0); data color 0 = Red | Green | Blue; data doer 0 = Do (-> int int) | Wait; exn no; `
	placedLibrary = `data list 1 = Nil | Cons v0 (d0 v0 @0 {e0}); data color 0 = Red | Green | Blue; data doer 0 = Do (-> int int @0 {e0}) | Wait; exn no; `
)

// someMain is a main for programs whose other functions are looked at.
const someMain = " fun main (int) int [value 0]"

// short is the begin of a text, for what a test prints.
func short(text string) string {
	if len(text) > 3000 {
		text = text[:3000] + ".."
	}
	return text
}

func write(p api.Program) string { return short(samples.Write(p)) }

// placed is what Place makes of a program, which has to be right.
func placed(t *testing.T, p api.Program) api.Program {
	t.Helper()
	q, e := place.Place(p)
	if e != api.OK {
		t.Fatalf("Place: %d: %s", e, write(p))
	}
	if e, at := steps.Check(q); e != api.OK {
		t.Fatalf("Check: %d %v: %s", e, at, write(q))
	}
	return q
}

// placedIs looks at what Place makes of some functions, and at what the judge makes.
func placedIs(t *testing.T, text, want string) {
	t.Helper()
	p := samples.Program(library + text)
	wanted := samples.Write(samples.Program(placedLibrary + want))
	if got := samples.Write(placed(t, p)); got != wanted {
		t.Errorf("Place: %s, not %s", got, wanted)
	}
	if got := samples.Write(judged(p)); got != wanted {
		t.Errorf("the judge: %s, not %s", got, wanted)
	}
}

// unitsOf reads the texts of units.
func unitsOf(t *testing.T, texts ...string) []api.Unit {
	t.Helper()
	var out []api.Unit
	for _, text := range texts {
		u, r := words.Read(text)
		if r.E != api.OK {
			t.Fatalf("%+v: %s", r, text)
		}
		out = append(out, u)
	}
	return out
}

// flatOf is the flat program of some units.
func flatOf(t *testing.T, texts ...string) api.Program {
	t.Helper()
	typed, r := types.Infer(unitsOf(t, texts...))
	if r.E != api.OK {
		t.Fatalf("%+v: %s", r, strings.Join(texts, " "))
	}
	p, e := flat.Flatten(typed)
	if e != api.OK {
		t.Fatalf("%d: %s", e, strings.Join(texts, " "))
	}
	return p
}

// byTexts is the flat program of the units of a number, if their types are found.
func byTexts(t *testing.T, number int) (api.Program, bool) {
	t.Helper()
	typed, r := types.Infer(unitsOf(t, samples.Texts(number)...))
	if r.E != api.OK {
		return api.Program{}, false
	}
	p, e := flat.Flatten(typed)
	return p, e == api.OK
}

// made is a flat program by chance, with arguments and a fuel for it.
type made struct {
	seed int
	api.Program
	args []int64
	fuel int
}

// sample makes a flat program, a new one each time: of units, without the regions of a region program, or one with many closures.
func sample(t *testing.T, seed int) made {
	t.Helper()
	some := rand.New(rand.NewSource(int64(seed)))
	m := made{seed: seed, args: []int64{int64(some.Intn(8)), int64(some.Intn(8) - 2)}, fuel: some.Intn(1 + some.Intn(300))}
	ok := false
	if seed%8 == 0 {
		m.Program, ok = byTexts(t, seed)
	}
	switch {
	case ok:
	case seed%4 == 1:
		m.Program = steps.Erase(samples.Regions(seed))
	case seed%4 == 2:
		m.Program = steps.Erase(samples.Mutual(seed))
	default:
		m.Program = samples.Flat(seed)
	}
	return m
}

// eachBlock goes through the blocks of a program, with their places.
func eachBlock(p *api.Program, visit func(at api.Spot, b *api.Block)) {
	var walk func(at api.Spot, b *api.Block)
	walk = func(at api.Spot, b *api.Block) {
		visit(at, b)
		for i := range b.Steps {
			for k := range b.Steps[i].Blocks {
				walk(api.Spot{Fun: at.Fun, Path: append(slices.Clone(at.Path), i, k)}, &b.Steps[i].Blocks[k])
			}
		}
	}
	for i := range p.Funs {
		walk(api.Spot{Fun: i}, &p.Funs[i].Body)
	}
}

// with puts a step into a block at a place, as long as something is looked at.
func with(b *api.Block, at int, s api.Step, look func()) {
	old := b.Steps
	b.Steps = slices.Insert(slices.Clone(old), at, s)
	look()
	b.Steps = old
}

// refuses looks at whether Check refuses a program that has been changed.
func (m made) refuses(t *testing.T, q api.Program, what string, at api.Spot, i int) {
	t.Helper()
	if e, _ := steps.Check(q); e == api.OK {
		t.Fatalf("%d: %s at %v, step %d: Check takes %s", m.seed, what, at, i, write(q))
	}
}

func isOfRegion(s api.Step) bool { return s.Op == api.ONew || s.Op == api.OEnd }

func end(region int) api.Step { return api.Step{Op: api.OEnd, Out: -1, Region: region} }

// runEnd is where a run of ends in a block ends that begins at a step.
func runEnd(b *api.Block, i int) int {
	for i < len(b.Steps) && b.Steps[i].Op == api.OEnd {
		i++
	}
	return i
}
