package place_test

import (
	"cmp"
	"math/rand"
	"reflect"
	"slices"
	"testing"

	"heriot/api"
	"heriot/samples"
	"heriot/steps"
)

// rounds is how many programs by chance most tests look at.
const rounds = 100

// counted looks at what stands in programs, so that a test can tell whether they were worth it.
type counted struct{ hidden, groups, variables, last, kept, unused, lambdas int }

func (c *counted) look(q api.Program) {
	for _, f := range q.Funs {
		c.variables += f.Effects
		for r := range f.Regions {
			if !slices.Contains(regionsIn(append(slices.Clone(f.Params), f.Result)...), r) {
				c.hidden++
			}
		}
		eachStep(f.Body, nil, nil, func(s api.Step, _, _ path, _ int) {
			if slices.Contains(s.Modes, api.Last) {
				c.last++
			}
			if len(s.Keep) > 0 {
				c.kept++
			}
			if s.Op == api.OCall && q.Funs[s.Code].Regions > 0 {
				c.groups++
			}
			if s.Op == api.OFn && len(s.Type.Effect.Regions) > 0 {
				c.lambdas++
			}
		})
	}
}

// TestJudged: P6.1 and P6.2, for programs by chance.
func TestJudged(t *testing.T) {
	t.Parallel()
	var c counted
	for seed := range 8 * rounds {
		m := sample(t, seed)
		q := placed(t, m.Program)
		if want := judged(m.Program); samples.Write(q) != samples.Write(want) || !slices.Equal(q.Exns, want.Exns) || q.Main != want.Main {
			t.Fatalf("%d: %s becomes %s, not %s", seed, write(m.Program), write(q), write(want))
		}
		if got := steps.Erase(q); samples.Write(got) != samples.Write(m.Program) {
			t.Fatalf("%d: Erase: %s, not %s", seed, write(got), write(m.Program))
		}
		c.look(q)
	}
	if c.hidden < rounds || c.groups < rounds || c.variables < rounds || c.last < rounds || c.kept < rounds || c.lambdas < rounds {
		t.Errorf("too few cases: %+v", c)
	}
}

// TestNames: P6.6: variables with other numbers, and functions in another order.
func TestNames(t *testing.T) {
	t.Parallel()
	for seed := range 2 * rounds {
		some := rand.New(rand.NewSource(int64(seed)))
		m := sample(t, seed)
		numbers := some.Perm(2000)
		rename := func(p api.Program) api.Program {
			p = samples.Program(samples.Write(p))
			p.Main = m.Main
			for i := range p.Funs {
				renamed(&p.Funs[i].Body, func(v int) int {
					if v < len(p.Funs[i].Params) {
						return v
					}
					return 100 + numbers[v]
				})
			}
			return p
		}
		if got, want := samples.Write(placed(t, rename(m.Program))), samples.Write(rename(placed(t, m.Program))); got != want {
			t.Fatalf("%d: with other variables: %s, not %s", seed, got, want)
		}
		p := steps.Erase(samples.Regions(seed))
		order := some.Perm(len(p.Funs))
		if got, want := samples.Write(placed(t, reordered(p, order))), samples.Write(reordered(placed(t, p), order)); got != want {
			t.Fatalf("%d: in the order %v: %s, not %s", seed, order, got, want)
		}
	}
}

// renamed gives other numbers to the variables of a block.
func renamed(b *api.Block, to func(int) int) {
	list := func(l []int) {
		for i := range l {
			l[i] = to(l[i])
		}
	}
	list(b.Bind)
	b.Value = to(b.Value)
	for i := range b.Steps {
		s := &b.Steps[i]
		list(s.Args)
		if s.Out >= 0 {
			s.Out = to(s.Out)
		}
		for k := range s.Blocks {
			renamed(&s.Blocks[k], to)
		}
	}
}

// reordered puts each function of a program to the place that the order has for it.
func reordered(p api.Program, order []int) api.Program {
	text := samples.Write(p)
	out := samples.Program(text)
	for i, f := range samples.Program(text).Funs {
		out.Funs[order[i]] = f
	}
	eachBlock(&out, func(_ api.Spot, b *api.Block) {
		for i := range b.Steps {
			if b.Steps[i].Op == api.OCall {
				b.Steps[i].Code = order[b.Steps[i].Code]
			}
		}
	})
	out.Main = order[p.Main]
	return out
}

// TestMemory: nothing is changed in an argument; a result shares no memory with one, and no two lists of it share any.
func TestMemory(t *testing.T) {
	t.Parallel()
	for seed := range rounds {
		m := sample(t, seed)
		before := samples.Write(m.Program)
		m.Program = samples.Program(before) // lists of a sample share memory
		q := placed(t, m.Program)
		if isShared(m.Program, q) {
			t.Fatalf("%d: %s shares memory", seed, write(q))
		}
		if again := placed(t, m.Program); samples.Write(m.Program) != before || samples.Write(again) != samples.Write(q) {
			t.Fatalf("%d: %s: not the same again: %s, not %s", seed, write(m.Program), write(again), write(q))
		}
	}
}

// isShared tells whether two lists that stand somewhere in some values have memory in common.
func isShared(values ...any) bool {
	type piece struct{ from, to uintptr }
	var all []piece
	var walk func(v reflect.Value)
	walk = func(v reflect.Value) {
		switch v.Kind() {
		case reflect.Struct:
			for i := range v.NumField() {
				walk(v.Field(i))
			}
		case reflect.Slice:
			if v.Len() > 0 {
				all = append(all, piece{v.Pointer(), v.Pointer() + uintptr(v.Len())*v.Type().Elem().Size()})
			}
			for i := range v.Len() {
				walk(v.Index(i))
			}
		}
	}
	for _, v := range values {
		walk(reflect.ValueOf(v))
	}
	slices.SortFunc(all, func(a, b piece) int { return cmp.Compare(a.from, b.from) })
	for i := 1; i < len(all); i++ {
		if all[i].from < all[i-1].to {
			return true
		}
	}
	return false
}
