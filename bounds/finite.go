package bounds

import (
	"cmp"
	"slices"

	"heriot/api"
	"heriot/groups"
	"heriot/outline"
)

// A count of words above a limit is taken as unbounded.
const (
	mostWords = 1 << 50
	unbounded = mostWords + 1
)

// tally is how many words are made in regions, by their names: in all regions in which cells may be made, or which are handed to callees.
type tally map[int]int64

// add adds words to a region.
func (t tally) add(region int, words int64) { t[region] = min(t[region]+words, unbounded) }

// plus adds what another tally has.
func (t tally) plus(more tally) {
	for region, words := range more {
		t.add(region, words)
	}
}

// greatest is the greatest of what some tallies have.
func greatest(list []tally) tally {
	out := tally{}
	for _, one := range list {
		for region, words := range one {
			out[region] = max(out[region], words)
		}
	}
	return out
}

// counter counts the words that are made in regions.
type counter struct {
	*api.Program
	formals map[int]tally // of the functions that are done
	counts  []api.Count
}

// source is a function whose words are counted.
type source struct {
	*counter
	number int
	ints   map[int]int64 // its variables that are constants
	words  map[*api.Step]int64
}

// countsOf are the counts of all regions that begin in a program.
func countsOf(p *api.Program) []api.Count {
	c := &counter{Program: p, formals: map[int]tally{}}
	var all []int
	for i := range p.Funs {
		all = append(all, i)
	}
	for _, group := range groups.Of(all, func(n int) []int { return outline.Callees(&p.Funs[n]) }) {
		if len(group) > 1 || slices.Contains(outline.Callees(&p.Funs[group[0]]), group[0]) {
			c.recursive(group)
			for _, n := range group {
				c.sourceOf(n).block(&p.Funs[n].Body)
			}
		} else {
			c.formals[group[0]] = c.sourceOf(group[0]).block(&p.Funs[group[0]].Body)
		}
	}
	slices.SortFunc(c.counts, func(a, b api.Count) int {
		return cmp.Or(cmp.Compare(a.Fun, b.Fun), cmp.Compare(a.Region, b.Region))
	})
	return c.counts
}

func (c *counter) sourceOf(number int) *source {
	f := &c.Funs[number]
	out := &source{c, number, map[int]int64{}, closuresOf(c.Program, f)}
	for _, s := range outline.Steps(&f.Body) {
		if s.Op == api.OInt {
			out.ints[s.Out] = s.Int
		}
	}
	return out
}

// block counts the words of a block, and notes those of the regions that begin in it.
func (s *source) block(b *api.Block) tally {
	out := tally{}
	for i := range b.Steps {
		out.plus(s.step(&b.Steps[i]))
	}
	for i := range b.Steps {
		if b.Steps[i].Op == api.ONew {
			s.note(b.Steps[i].Region, out)
		}
	}
	return out
}

func (s *source) note(region int, in tally) {
	count := api.Count{Fun: s.number, Region: region}
	if words := in[region]; words <= mostWords {
		count.Words, count.Known = int(words), true
	}
	s.counts = append(s.counts, count)
}

// step counts the words of a step, at all depths.
func (s *source) step(of *api.Step) tally {
	own := s.own(of)
	var blocks []tally
	for i := range of.Blocks {
		blocks = append(blocks, s.block(&of.Blocks[i]))
	}
	switch of.Op {
	case api.OFn:
		for region := range blocks[0] {
			own.add(region, unbounded)
		}
	case api.OHandle:
		own.plus(blocks[0])
		own.plus(greatest(blocks[1:]))
	default:
		own.plus(greatest(blocks))
	}
	return own
}

// own counts the words of a step alone.
func (s *source) own(of *api.Step) tally {
	out := tally{}
	if of.Op == api.OCall {
		for _, formal := range s.Funs[of.Code].Touch.Regions {
			out.add(of.Regions[formal], s.formals[of.Code][formal])
		}
	} else if words, ok := s.cell(of); ok {
		out.add(of.Region, words)
	}
	return out
}

// cell is how many words the cell has that a step makes, if it makes one.
func (s *source) cell(of *api.Step) (int64, bool) {
	switch of.Op {
	case api.OMake:
		return int64(1 + len(of.Args)), len(of.Args) > 0
	case api.OTuple:
		return int64(len(of.Args)), true
	case api.OFn:
		return s.words[of], true
	case api.ORef:
		return 1, true
	case api.OArray:
		n, ok := s.ints[of.Args[0]]
		if !ok {
			return unbounded, true
		}
		return 1 + n, n >= 0 && n <= api.MaxArray
	}
	return 0, false
}

// formal is a region that a function is given.
type formal struct{ fun, region int }

// recursive finds in which regions that they are given the functions of a group make cells, perhaps over others: the words of these are unbounded.
func (c *counter) recursive(group []int) {
	isInside := map[int]bool{}
	for _, n := range group {
		isInside[n] = true
		c.formals[n] = tally{}
	}
	givers := map[formal][]formal{} // of the callees' formals in the group those that are given
	var made []formal
	for _, n := range group {
		s := c.sourceOf(n)
		for _, step := range outline.Steps(&c.Funs[n].Body) {
			if step.Op == api.OCall && isInside[step.Code] {
				for _, to := range c.Funs[step.Code].Touch.Regions {
					at := formal{step.Code, to}
					givers[at] = append(givers[at], formal{n, step.Regions[to]})
				}
				continue
			}
			for region, words := range s.own(step) {
				if words > 0 {
					made = append(made, formal{n, region})
				}
			}
		}
	}
	for len(made) > 0 {
		last := made[len(made)-1]
		made = made[:len(made)-1]
		if c.formals[last.fun][last.region] == 0 {
			c.formals[last.fun][last.region] = unbounded
			made = append(made, givers[last]...)
		}
	}
}
