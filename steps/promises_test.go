package steps_test

import (
	"fmt"
	"math/rand"
	"reflect"
	"slices"
	"testing"

	"heriot/api"
	"heriot/flat"
	"heriot/samples"
	"heriot/steps"
)

const rounds = 100

// made is a program by chance, with arguments and a fuel for it.
type made struct {
	seed int
	api.Program
	args []int64
	fuel int
}

// sample makes a program, a new one each time.
func sample(seed int) made {
	some := rand.New(rand.NewSource(int64(seed)))
	return made{seed, samples.Regions(seed), []int64{int64(some.Intn(8)), int64(some.Intn(8) - 2)}, some.Intn(1 + some.Intn(300))}
}

// TestRuns: P5.3, P5.4 and P5.5 (and P3), for programs by chance, all of which are taken.
func TestRuns(t *testing.T) {
	t.Parallel()
	faults := map[int]int{}
	long := 0
	for seed := range 5 * rounds {
		m := sample(seed)
		if e, spot := steps.Check(m.Program); e != api.OK {
			t.Fatalf("%d: Check: %d %v", seed, e, spot)
		}
		got := steps.Run(m.Program, m.args, m.fuel)
		if want, _ := tell(m.Program, m.args, m.fuel, false); !isSameRun(got, want) {
			t.Fatalf("%d with %v, fuel %d: %+v, not %+v", seed, m.args, m.fuel, got, want)
		}
		bare := steps.Erase(m.Program)
		if e := flat.Valid(bare); e != api.OK {
			t.Fatalf("%d: Valid of Erase: %d", seed, e)
		}
		if want := flat.Run(bare, m.args, m.fuel); !isSameResult(got.Result, want) {
			t.Fatalf("%d with %v, fuel %d: %+v, not %+v", seed, m.args, m.fuel, got.Result, want)
		}
		fault := got.Result.Fault
		if fault == api.FTouch || fault == api.FStuck || fault != api.FFuel && got.Left != 0 {
			t.Fatalf("%d with %v, fuel %d: %+v, left %d", seed, m.args, m.fuel, got.Result, got.Left)
		}
		faults[fault]++
		if len(got.Events) > 50 {
			long++
		}
		for _, others := range [][]int64{nil, m.args[:1], {1, 2, 3}} {
			if got := steps.Run(m.Program, others, m.fuel); !isSameRun(got, stuck) {
				t.Fatalf("%d with %v: %+v", seed, others, got)
			}
			if _, e := steps.Frames(m.Program, others, m.fuel, 1); e != api.ErrShape {
				t.Fatalf("%d: Frames with %v: %d", seed, others, e)
			}
		}
	}
	if faults[api.FNone] < rounds || faults[api.FExn] < rounds/4 || faults[api.FFuel] < rounds || long < rounds/4 {
		t.Errorf("too few cases: %v, %d are long", faults, long)
	}
}

// TestFrames: P5.3 and P5.7, at all events of runs, or at many of a long one.
func TestFrames(t *testing.T) {
	t.Parallel()
	looked, deep := 0, 0
	for seed := range 2 * rounds {
		m := sample(seed)
		run, looks := tell(m.Program, m.args, m.fuel, true)
		lives := livesOf(m.Program)
		step := 1 + len(run.Events)/60
		for k := -1; k <= len(run.Events)+1; k += step {
			got, e := steps.Frames(m.Program, m.args, m.fuel, k)
			var want []api.Frame
			if k >= 1 && k <= len(run.Events) {
				want = looks[k-1]
				m.owned(t, run.Events[:k], want)
				m.live(t, lives, want)
			}
			if e != api.OK || !areSameFrames(got, want) {
				t.Fatalf("%d with %v, fuel %d, event %d: %v %d, not %v", seed, m.args, m.fuel, k, got, e, want)
			}
			looked++
			if len(got) > 3 {
				deep++
			}
		}
	}
	if looked < 50*rounds/10 || deep < rounds {
		t.Errorf("too few cases: %d, of which %d are deep", looked, deep)
	}
}

// owned looks at whether each instance that has begun and not ended is owned by just one handle.
func (m made) owned(t *testing.T, events []api.Event, frames []api.Frame) {
	t.Helper()
	open := map[int]int{}
	for _, e := range events {
		switch e.Kind {
		case api.VNew:
			open[e.Region] = 0
		case api.VEnd:
			delete(open, e.Region)
		}
	}
	for _, f := range frames {
		for _, i := range f.Instances {
			if owners, ok := open[i]; !ok || owners > 0 {
				t.Fatalf("%d: instance %d is open: %v, and has %d owners: %v", m.seed, i, ok, owners, frames)
			}
			open[i]++
		}
	}
	for i, owners := range open {
		if owners != 1 {
			t.Fatalf("%d: instance %d has %d owners: %v", m.seed, i, owners, frames)
		}
	}
}

// live looks at whether the regions whose instances are owned are live ahead of the steps of the frames; one that the step itself has begun is so behind it.
func (m made) live(t *testing.T, lives map[string]map[int]bool, frames []api.Frame) {
	t.Helper()
	for _, f := range frames {
		path := ""
		for _, n := range f.Path {
			path += fmt.Sprint(n, "/")
		}
		live := lives[fmt.Sprint(f.Fun, "/", path)]
		b := &m.Funs[f.Fun].Body
		for i := 0; i+1 < len(f.Path); i += 2 {
			b = &b.Steps[f.Path[i]].Blocks[f.Path[i+1]]
		}
		s := b.Steps[f.Path[len(f.Path)-1]]
		for _, r := range f.Regions {
			if !live[r] && (s.Op != api.ONew || s.Region != r) {
				t.Fatalf("%d: region %d is not live at %v: %v", m.seed, r, f, live)
			}
		}
	}
}

// eachBlock goes through the blocks of a function.
func eachBlock(b *api.Block, visit func(b *api.Block)) {
	visit(b)
	for i := range b.Steps {
		for j := range b.Steps[i].Blocks {
			eachBlock(&b.Steps[i].Blocks[j], visit)
		}
	}
}

// TestLater: P5.6: each end one step later, behind a step without blocks.
func TestLater(t *testing.T) {
	t.Parallel()
	count := 0
	for seed := range 2 * rounds {
		m := sample(seed)
		for f := range m.Funs {
			eachBlock(&m.Funs[f].Body, func(b *api.Block) {
				for i := 0; i+1 < len(b.Steps); i++ {
					if b.Steps[i].Op != api.OEnd || len(b.Steps[i+1].Blocks) > 0 {
						continue
					}
					count++
					b.Steps[i], b.Steps[i+1] = b.Steps[i+1], b.Steps[i]
					if e, spot := steps.Check(m.Program); e != api.OK {
						t.Fatalf("%d: step %d of a block of %d later: %d %v", seed, i, f, e, spot)
					}
					b.Steps[i], b.Steps[i+1] = b.Steps[i+1], b.Steps[i]
				}
			})
		}
	}
	if count < 10*rounds {
		t.Errorf("too few cases: %d", count)
	}
}

// TestKept: P5.6: each mode Last turned to Keep, with an end behind the call.
func TestKept(t *testing.T) {
	t.Parallel()
	count := 0
	for seed := range 5 * rounds {
		m := sample(seed)
		for f := range m.Funs {
			eachBlock(&m.Funs[f].Body, func(b *api.Block) {
				for i := 0; i < len(b.Steps); i++ {
					for k, mode := range b.Steps[i].Modes {
						if mode != api.Last {
							continue
						}
						count++
						own := b.Steps
						own[i].Modes[k] = api.Keep
						actual := own[i].Regions[m.Funs[own[i].Code].Touch.Regions[k]]
						b.Steps = slices.Insert(slices.Clone(own), i+1, api.Step{Op: api.OEnd, Out: -1, Region: actual})
						if e, spot := steps.Check(m.Program); e != api.OK {
							t.Fatalf("%d: mode %d of step %d of a block of %d: %d %v", seed, k, i, f, e, spot)
						}
						own[i].Modes[k] = api.Last
						b.Steps = own
					}
				}
			})
		}
	}
	if count < 2*rounds {
		t.Errorf("too few cases: %d", count)
	}
}

// bare takes everything away that a region program has beside its flat program.
func bare(p api.Program) api.Program {
	drop := reflect.ValueOf(&p).Elem()
	var look func(v reflect.Value)
	look = func(v reflect.Value) {
		switch x := v.Addr().Interface().(type) {
		case *api.Fun:
			x.Regions, x.Effects, x.Touch = 0, 0, api.Effect{}
		case *api.Type:
			x.Region, x.Effect = 0, api.Effect{}
		case *[]api.Step:
			*x = slices.DeleteFunc(*x, func(s api.Step) bool { return s.Op >= api.ONew })
		case *api.Step:
			x.Effects, x.Regions, x.Modes, x.Region, x.Keep = nil, nil, nil, 0, nil
		}
		switch v.Kind() {
		case reflect.Struct:
			for i := range v.NumField() {
				look(v.Field(i))
			}
		case reflect.Slice:
			for i := range v.Len() {
				look(v.Index(i))
			}
		}
	}
	look(drop)
	return p
}

// TestErase: P5.2.
func TestErase(t *testing.T) {
	t.Parallel()
	for seed := range 2 * rounds {
		got := steps.Erase(samples.Regions(seed))
		if want := bare(samples.Regions(seed)); samples.Write(got) != samples.Write(want) {
			t.Fatalf("%d: Erase: %s, not %s", seed, samples.Write(got), samples.Write(want))
		}
	}
}
