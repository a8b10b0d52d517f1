package steps_test

import (
	"math/rand"
	"reflect"
	"slices"
	"testing"

	"heriot/api"
)

// blocksOf are the blocks of a function, at all depths.
func blocksOf(f *api.Fun) []*api.Block {
	var out []*api.Block
	eachBlock(&f.Body, func(b *api.Block) { out = append(out, b) })
	return out
}

// regionSteps are the places of the steps in a block that begin or end a region.
func regionSteps(b *api.Block) []int {
	var out []int
	for i, s := range b.Steps {
		if s.Op >= api.ONew {
			out = append(out, i)
		}
	}
	return out
}

// renamed gives other numbers to regions wherever they stand in what is pointed to.
func renamed(v reflect.Value, to func(int) int) {
	list := func(l []int) {
		for i := range l {
			l[i] = to(l[i])
		}
	}
	set := func(l *[]int) {
		list(*l)
		slices.Sort(*l)
		*l = slices.Compact(*l)
	}
	switch x := v.Addr().Interface().(type) {
	case *api.Type:
		if x.Kind >= api.TData {
			x.Region = to(x.Region)
		}
	case *api.Effect:
		set(&x.Regions)
	case *api.Step:
		if isMaking(*x) || x.Op >= api.ONew {
			x.Region = to(x.Region)
		}
		list(x.Regions)
		set(&x.Keep)
	}
	switch v.Kind() {
	case reflect.Struct:
		for i := range v.NumField() {
			renamed(v.Field(i), to)
		}
	case reflect.Slice:
		for i := range v.Len() {
			renamed(v.Index(i), to)
		}
	}
}

// move changes in some way where regions of a function begin and end, or which they are.
func move(some *rand.Rand, p *api.Program) {
	f := &p.Funs[some.Intn(len(p.Funs))]
	blocks := blocksOf(f)
	b, other := blocks[some.Intn(len(blocks))], blocks[some.Intn(len(blocks))]
	places := regionSteps(b)
	all := 1 + f.Regions + some.Intn(6)
	switch some.Intn(8) {
	case 0: // a step of a region goes to another place of its block, or of another one
		if len(places) > 0 {
			i := places[some.Intn(len(places))]
			s := b.Steps[i]
			b.Steps = slices.Delete(slices.Clone(b.Steps), i, i+1)
			if some.Intn(2) == 0 {
				other = b
			}
			other.Steps = slices.Insert(slices.Clone(other.Steps), some.Intn(len(other.Steps)+1), s)
		}
	case 1: // one stands at two places, or at none
		if len(places) > 0 {
			i := places[some.Intn(len(places))]
			s := b.Steps[i]
			b.Steps = slices.Delete(slices.Clone(b.Steps), i, i+some.Intn(2))
			b.Steps = slices.Insert(b.Steps, some.Intn(len(b.Steps)+1), s)
		}
	case 2: // a new one
		s := api.Step{Op: api.ONew + some.Intn(2), Out: -1, Region: some.Intn(all)}
		b.Steps = slices.Insert(slices.Clone(b.Steps), some.Intn(len(b.Steps)+1), s)
	case 3: // two regions become one, or change their names
		from, to, back := some.Intn(all), some.Intn(all), some.Intn(2) == 0
		renamed(reflect.ValueOf(&f.Body).Elem(), func(r int) int {
			switch {
			case r == from:
				return to
			case r == to && back:
				return from
			}
			return r
		})
	case 4, 5: // modes
		for i := range b.Steps {
			if s := &b.Steps[i]; len(s.Modes) > 0 {
				s.Modes[some.Intn(len(s.Modes))] = some.Intn(2)
			}
		}
	case 6: // what is kept
		for i := range b.Steps {
			if s := &b.Steps[i]; s.Op == api.OHandle && some.Intn(2) == 0 {
				s.Keep = slices.DeleteFunc(s.Keep, func(int) bool { return some.Intn(3) == 0 })
			} else if s.Op == api.OHandle {
				s.Keep = append(s.Keep, some.Intn(all))
				slices.Sort(s.Keep)
				s.Keep = slices.Compact(s.Keep)
			}
		}
	case 7: // what may be touched
		f.Touch.Regions = slices.DeleteFunc(f.Touch.Regions, func(int) bool { return some.Intn(4) == 0 })
		f.Touch.Vars = slices.DeleteFunc(f.Touch.Vars, func(int) bool { return some.Intn(4) == 0 })
	}
}

// TestMoved: P5.1, P5.3, P5.4 and P5.5: programs by chance whose regions begin and end at other places.
func TestMoved(t *testing.T) {
	t.Parallel()
	counts := map[api.Errno]int{}
	for seed := range 6 * rounds {
		m := sample(seed)
		some := rand.New(rand.NewSource(int64(seed)))
		for range 1 + some.Intn(3) {
			move(some, &m.Program)
		}
		counts[checkAll(t, m.Program, m.args, m.fuel)]++
	}
	for _, e := range []api.Errno{api.ErrScope, api.ErrEffect, api.ErrLive, api.ErrMode, api.ErrKeep, api.ErrJoin, api.ErrLeft} {
		if counts[e] < rounds/20 || counts[api.OK] < rounds {
			t.Errorf("too few cases: %v", counts)
		}
	}
}
