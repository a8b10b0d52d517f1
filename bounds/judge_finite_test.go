package bounds_test

import (
	"slices"

	"heriot/api"
	"heriot/outline"
)

// finite says what Finite has to say, region by region: the words of a name in a block are counted anew for each name that is asked for.
type finite struct{ api.Program }

// endless is a number of words that is not bounded.
const endless = 1<<50 + 1

func total(list ...int64) int64 {
	out := int64(0)
	for _, n := range list {
		out = min(out+n, endless)
	}
	return out
}

// counted are the counts that Finite has to give.
func counted(p api.Program) []api.Count {
	j := finite{p}
	var out []api.Count
	for i, f := range p.Funs {
		var own []api.Count
		var look func(b api.Block)
		look = func(b api.Block) {
			for _, s := range b.Steps {
				if s.Op == api.ONew {
					c := api.Count{Fun: i, Region: s.Region}
					if words := j.block(f, b, s.Region); words < endless {
						c.Known, c.Words = true, int(words)
					}
					own = append(own, c)
				}
				for _, b := range s.Blocks {
					look(b)
				}
			}
		}
		look(f.Body)
		slices.SortFunc(own, func(a, b api.Count) int { return a.Region - b.Region })
		out = append(out, own...)
	}
	return out
}

// all are the steps of a block at all depths.
func all(b api.Block) []api.Step {
	var out []api.Step
	for _, s := range b.Steps {
		out = append(out, s)
		for _, b := range s.Blocks {
			out = append(out, all(b)...)
		}
	}
	return out
}

// cell is how many words of a cell a step makes in a region, and whether it makes one.
func (j finite) cell(f api.Fun, s api.Step, r int) (int64, bool) {
	if !outline.Needs(&s) || s.Region != r {
		return 0, false
	}
	switch s.Op {
	case api.OMake:
		return int64(len(s.Args) + 1), true
	case api.OTuple:
		return int64(len(s.Args)), true
	case api.OFn:
		return closureWords(j.Program, f, s), true
	case api.ORef:
		return 1, true
	}
	for _, other := range all(f.Body) {
		if other.Out == s.Args[0] && other.Op == api.OInt {
			return other.Int%(1<<40) + 1, other.Int >= 0 && other.Int <= api.MaxArray
		}
	}
	return endless, true
}

// handed are the formals of a callee's Touch that stand for a region.
func (j finite) handed(s api.Step, r int) []int {
	var out []int
	if s.Op == api.OCall {
		for _, k := range j.Funs[s.Code].Touch.Regions {
			if s.Regions[k] == r {
				out = append(out, k)
			}
		}
	}
	return out
}

func (j finite) block(f api.Fun, b api.Block, r int) int64 {
	out := int64(0)
	for _, s := range b.Steps {
		if words, ok := j.cell(f, s, r); ok {
			out = total(out, words)
		}
		for _, k := range j.handed(s, r) {
			out = total(out, j.formal(s.Code, k))
		}
		switch s.Op {
		case api.OIf, api.OCase:
			out = total(out, j.greatest(f, s.Blocks, r))
		case api.OHandle:
			out = total(out, j.block(f, s.Blocks[0], r), j.greatest(f, s.Blocks[1:], r))
		case api.OFn:
			for _, inner := range all(s.Blocks[0]) {
				if _, ok := j.cell(f, inner, r); ok || len(j.handed(inner, r)) > 0 {
					out = endless
				}
			}
		}
	}
	return out
}

func (j finite) greatest(f api.Fun, blocks []api.Block, r int) int64 {
	out := int64(0)
	for _, b := range blocks {
		out = max(out, j.block(f, b, r))
	}
	return out
}

// reaches are the functions that a function calls, perhaps over others.
func (j finite) reaches(fun int) map[int]bool {
	out := map[int]bool{}
	var look func(n int)
	look = func(n int) {
		for _, s := range all(j.Funs[n].Body) {
			if s.Op == api.OCall && !out[s.Code] {
				out[s.Code] = true
				look(s.Code)
			}
		}
	}
	look(fun)
	return out
}

// formal is how many words a function makes in one of its formals.
func (j finite) formal(fun, k int) int64 {
	if !j.reaches(fun)[fun] {
		return j.block(j.Funs[fun], j.Funs[fun].Body, k)
	}
	if j.makes(fun, k, map[[2]int]bool{}) {
		return endless
	}
	return 0
}

// makes tells whether a function that calls itself makes something in a formal.
func (j finite) makes(fun, k int, seen map[[2]int]bool) bool {
	if seen[[2]int{fun, k}] {
		return false
	}
	seen[[2]int{fun, k}] = true
	for _, s := range all(j.Funs[fun].Body) {
		if _, ok := j.cell(j.Funs[fun], s, k); ok {
			return true
		}
		for _, to := range j.handed(s, k) {
			if j.reaches(s.Code)[fun] {
				if j.makes(s.Code, to, seen) {
					return true
				}
			} else if j.formal(s.Code, to) > 0 {
				return true
			}
		}
	}
	return false
}
