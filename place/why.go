package place

import (
	"heriot/api"
	"heriot/steps"
)

// Why is a path from a place of a region program to a step that touches a region: who keeps it.
func Why(p api.Program, at api.Spot, region int) (way []api.Spot, ok bool) {
	defer func() {
		if recover() != nil {
			// Nothing panics in a program that Check takes; if it did, there would be no way.
			way, ok = nil, false
		}
	}()
	if e, _ := steps.Check(p); e != api.OK || at.Fun < 0 || at.Fun >= len(p.Funs) || region < 0 {
		return nil, false
	}
	w := newWalker(&p, at.Fun)
	from, ok := w.find(at.Path)
	if !ok || !from.live.has(region) {
		return nil, false
	}
	return w.way(from, at.Fun, region)
}

// way is the way from a place to a step that touches a region.
func (w *walker) way(at *position, fun, region int) ([]api.Spot, bool) {
	var out []api.Spot
	note := func(path []int) { out = append(out, api.Spot{Fun: fun, Path: path}) }
search:
	for {
		b := at.levels.Top()
		for i := at.next; i < len(b.Steps); i++ {
			if w.touches(&b.Steps[i], region) {
				note(append(at.path(), i))
				return out, true
			}
			if k, isInside := w.inside(&b.Steps[i], 0, region); isInside {
				at.enter(i, k)
				note(at.path())
				continue search
			}
		}
		here := at.levels.Pop()
		if here.of == nil || here.of.Op == api.OFn {
			return nil, false
		}
		if here.of.Op == api.OHandle && here.which == 0 {
			if k, isInside := w.inside(here.of, 1, region); isInside {
				at.enter(here.step, k)
				note(at.path())
				continue
			}
		}
		at.next = here.step + 1
	}
}
