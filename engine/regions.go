package engine

import (
	"slices"

	"heriot/api"
)

// begins begins an instance of a region, which the frame owns.
func (r *run) begins(f *frame, region int) {
	number := len(r.meter.instances)
	r.meter.instances = append(r.meter.instances, instance{})
	f.give(region, handle{number, true})
	r.meter.record(api.VNew, number, 0, 0)
}

// ends takes a handle away, and ends its instance if the handle owns it.
func (r *run) ends(f *frame, region int) {
	h, ok := f.handles[region]
	if !ok {
		r.fault = api.FTouch
		return
	}
	f.drop(region)
	if h.owns {
		r.meter.end(h.instance)
	}
}

// allocate lets a new cell lie in a region, and tells whether it can.
func (r *run) allocate(f *frame, region int, c *cell, words int) bool {
	if r.meter == nil {
		return true
	}
	h, ok := f.handles[region]
	if !ok || r.meter.instances[h.instance].ended {
		r.fault = api.FTouch
		return false
	}
	c.instance = h.instance
	r.meter.instances[h.instance].words += words
	r.meter.record(api.VAlloc, h.instance, words, words)
	return true
}

// touch notes that a cell is read or written, and tells whether it can be. A value without a cell is not touched.
func (r *run) touch(c *cell) bool {
	if r.meter == nil || c == nil {
		return true
	}
	if r.meter.instances[c.instance].ended {
		r.fault = api.FTouch
		return false
	}
	r.meter.record(api.VTouch, c.instance, 0, 0)
	return true
}

// given are the handles that a callee gets, one for each formal that it may touch; none and false if the caller has not all of them.
func (f *frame) given(s *step, callee *routine) ([]handle, bool) {
	var out []handle
	for i, formal := range callee.touch {
		h, ok := f.handles[s.regions[formal]]
		if !ok {
			return nil, false
		}
		h.owns = h.owns && s.modes[i] == api.Last
		out = append(out, h)
	}
	return out, true
}

// endAll ends what the handles of a frame own that an exception leaves, but for those of some regions, which rise, and takes these handles away.
func (m *meter) endAll(f *frame, keep []int) {
	for _, h := range slices.Backward(f.owned()) {
		if _, kept := slices.BinarySearch(keep, h.region); !kept {
			f.drop(h.region)
			m.end(h.instance)
		}
	}
}
