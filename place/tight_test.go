package place_test

import (
	"slices"
	"testing"

	"heriot/api"
	"heriot/place"
	"heriot/steps"
)

// TestLaterEnds: P6.3 (a): an end exchanged with the step ahead of it, and (d): a begin behind the next step.
func TestLaterEnds(t *testing.T) {
	t.Parallel()
	ends, begins := 0, 0
	for seed := range 2 * rounds {
		m := sample(t, seed)
		q := placed(t, m.Program)
		eachBlock(&q, func(at api.Spot, b *api.Block) {
			for i := range b.Steps {
				if i > 0 && b.Steps[i].Op == api.OEnd && b.Steps[i-1].Op != api.OEnd {
					ends++
					b.Steps[i], b.Steps[i-1] = b.Steps[i-1], b.Steps[i]
					m.refuses(t, q, "an earlier end", at, i)
					b.Steps[i], b.Steps[i-1] = b.Steps[i-1], b.Steps[i]
				}
				if b.Steps[i].Op == api.ONew {
					begins++
					m.laterBegin(t, q, at, b, i)
				}
			}
		})
	}
	if ends < 10*rounds || begins < 10*rounds {
		t.Errorf("too few cases: %d ends, %d begins", ends, begins)
	}
}

// laterBegin puts a begin behind the first step that follows it and begins or ends nothing.
func (m made) laterBegin(t *testing.T, q api.Program, at api.Spot, b *api.Block, i int) {
	t.Helper()
	to := i
	for isOfRegion(b.Steps[to]) {
		to++
	}
	old := b.Steps
	b.Steps = slices.Insert(slices.Clone(old), to+1, old[i])
	b.Steps = slices.Delete(b.Steps, i, i+1)
	m.refuses(t, q, "a later begin", at, i)
	b.Steps = old
}

// TestEndsOfBlocks: P6.3 (b): ends at the begins of the blocks of a step.
func TestEndsOfBlocks(t *testing.T) {
	t.Parallel()
	all, some := 0, 0
	for seed := range 3 * rounds {
		m := sample(t, seed)
		q := placed(t, m.Program)
		eachBlock(&q, func(at api.Spot, b *api.Block) {
			for i := range b.Steps {
				for _, r := range endsIn(&b.Steps[i]) {
					if m.endAhead(t, q, at, b, i, r) {
						all++
					} else {
						some++
					}
				}
			}
		})
	}
	if all < 5 || some < rounds {
		t.Errorf("too few cases: %d and %d", all, some)
	}
}

// endsIn are the regions that end at the begin of a block of a step, each once.
func endsIn(s *api.Step) []int {
	var out []int
	for k := range s.Blocks {
		b := &s.Blocks[k]
		for _, e := range b.Steps[:runEnd(b, 0)] {
			if s.Op != api.OFn && !slices.Contains(out, e.Region) {
				out = append(out, e.Region)
			}
		}
	}
	return out
}

// endAhead tells whether a region ends at the begin of all blocks of a step that begin with it; then it cannot end ahead of the step. Otherwise another block has a way to it.
func (m made) endAhead(t *testing.T, q api.Program, at api.Spot, b *api.Block, i, r int) bool {
	t.Helper()
	s := &b.Steps[i]
	all, hasWay := true, false
	for k := range s.Blocks {
		if s.Op == api.OHandle && k > 0 && !slices.Contains(s.Keep, r) {
			continue
		}
		inner := &s.Blocks[k]
		if !slices.ContainsFunc(inner.Steps[:runEnd(inner, 0)], func(e api.Step) bool { return e.Region == r }) {
			all = false
			_, ok := place.Why(q, api.Spot{Fun: at.Fun, Path: append(slices.Clone(at.Path), i, k)}, r)
			hasWay = hasWay || ok
		}
	}
	if !all && !hasWay {
		t.Fatalf("%d: %v, step %d: region %d ends at the begin of a block, and no other block has a way: %s", m.seed, at, i, r, write(q))
	}
	if !all {
		return false
	}
	var old [][]api.Step
	for k := range s.Blocks {
		inner := &s.Blocks[k]
		old = append(old, inner.Steps)
		inner.Steps = slices.DeleteFunc(slices.Clone(inner.Steps[:runEnd(inner, 0)]), func(e api.Step) bool { return e.Region == r })
		inner.Steps = append(inner.Steps, old[k][runEnd(&api.Block{Steps: old[k]}, 0):]...)
	}
	with(b, i, end(r), func() { m.refuses(t, q, "an end ahead of blocks", at, i) })
	for k := range s.Blocks {
		s.Blocks[k].Steps = old[k]
	}
	return true
}

// TestLast: P6.3 (e): a region that ends behind a call cannot be handed over.
func TestLast(t *testing.T) {
	t.Parallel()
	count := 0
	for seed := range 8 * rounds {
		m := sample(t, seed)
		q := placed(t, m.Program)
		eachBlock(&q, func(at api.Spot, b *api.Block) {
			for i := range b.Steps {
				s := &b.Steps[i]
				for k, mode := range s.Modes {
					r := s.Regions[q.Funs[s.Code].Touch.Regions[k]]
					for j := i + 1; mode == api.Keep && j < runEnd(b, i+1); j++ {
						if b.Steps[j].Region != r {
							continue
						}
						count++
						old := b.Steps
						s.Modes[k] = api.Last
						b.Steps = slices.Delete(slices.Clone(old), j, j+1)
						m.refuses(t, q, "a region handed over", at, i)
						b.Steps = old
						s.Modes[k] = api.Keep
					}
				}
			}
		})
	}
	if count < rounds/4 {
		t.Errorf("too few cases: %d", count)
	}
}

// isLong tells whether a program has many steps.
func (m made) isLong() bool {
	count := 0
	for _, f := range m.Funs {
		eachStep(f.Body, nil, nil, func(api.Step, path, path, int) { count++ })
	}
	return count > 200
}

// places are the places of a program: the begin of each block, and behind each step that ends nothing; at is the place's index in its block, behind the ends.
func places(p *api.Program, visit func(at api.Spot, b *api.Block, index int)) {
	eachBlock(p, func(at api.Spot, b *api.Block) {
		visit(at, b, runEnd(b, 0))
		for i := range b.Steps {
			if b.Steps[i].Op != api.OEnd {
				visit(api.Spot{Fun: at.Fun, Path: append(slices.Clone(at.Path), i)}, b, runEnd(b, i+1))
			}
		}
	})
}

// isLive tells whether a region is live at an index of a block: whether Check lets it end there, but for what a handle keeps.
func isLive(p api.Program, at api.Spot, b *api.Block, index, r int) (live bool) {
	path := at.Path
	if len(path)%2 == 1 {
		path = path[:len(path)-1]
	}
	own := append(slices.Clone(path), index)
	with(b, index, end(r), func() {
		e, spot := steps.Check(p)
		isHere := spot.Fun == at.Fun && slices.Equal(spot.Path, own)
		live = !isHere || e != api.ErrScope && e != api.ErrEffect && e != api.ErrLive && e != api.ErrMode
	})
	return live
}

// regionCount is one more than the greatest region of a function.
func regionCount(f *api.Fun) int {
	count := f.Regions
	eachStep(f.Body, nil, nil, func(s api.Step, _, _ path, _ int) {
		if s.Op == api.ONew {
			count = max(count, s.Region+1)
		}
	})
	return count
}

// TestWays: P6.3 (c) and Why: a region has a way from a place just if it is live there; and where Check says which step touches it behind an end there, that step is where the way ends.
func TestWays(t *testing.T) {
	t.Parallel()
	ways, checked := 0, 0
	for seed := range rounds / 5 {
		m := sample(t, seed)
		q := placed(t, m.Program)
		if m.isLong() {
			continue
		}
		count := 0
		places(&q, func(at api.Spot, b *api.Block, index int) {
			if count++; count%4 != seed%4 {
				return
			}
			for r := -1; r <= regionCount(&q.Funs[at.Fun]); r++ {
				way, ok := place.Why(q, at, r)
				if want := r >= 0 && isLive(q, at, b, index, r); ok != want || ok != (len(way) > 0) {
					t.Fatalf("%d: Why of %d at %v: %v %v, not %v: %s", seed, r, at, way, ok, want, write(q))
				}
				if ok {
					ways++
					checked += m.checkWay(t, q, at, b, index, r, way)
				}
			}
		})
	}
	if ways < 5*rounds || checked < 2*rounds {
		t.Errorf("too few cases: %d, of which %d were checked", ways, checked)
	}
}

// stepAt is the step of a path.
func stepAt(p *api.Program, at api.Spot) *api.Step {
	b := &p.Funs[at.Fun].Body
	for i := 0; i+1 < len(at.Path); i += 2 {
		b = &b.Steps[at.Path[i]].Blocks[at.Path[i+1]]
	}
	return &b.Steps[at.Path[len(at.Path)-1]]
}

// checkWay looks at whether a way ends where Check says that a region is touched which ends at the place. It gives 1 if Check says so.
func (m made) checkWay(t *testing.T, q api.Program, at api.Spot, b *api.Block, index, r int, way []api.Spot) (count int) {
	t.Helper()
	path := at.Path[:len(at.Path)/2*2]
	with(b, index, end(r), func() {
		e, spot := steps.Check(q)
		if e != api.ErrLive || spot.Fun != at.Fun || stepAt(&q, spot).Op == api.OEnd {
			return
		}
		touch := slices.Clone(spot.Path)
		if len(touch) > len(path) && slices.Equal(touch[:len(path)], path) {
			touch[len(path)]--
		}
		count = 1
		if last := way[len(way)-1]; last.Fun != at.Fun || !slices.Equal(last.Path, touch) {
			t.Fatalf("%d: Why of %d at %v: %v, not to %v: %s", m.seed, r, at, way, touch, write(q))
		}
	})
	return count
}
