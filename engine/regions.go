package engine

import (
	"heriot/api"
	"heriot/handles"
)

// begins begins an instance of a region, which the frame owns.
func (r *run) begins(f *frame, region int) {
	number := len(r.meter.instances)
	r.meter.instances = append(r.meter.instances, instance{})
	f.Give(region, handles.Handle{Instance: number, Owns: true})
	r.meter.record(api.VNew, number, 0, 0)
}

// ends takes a handle away, and ends its instance if the handle owns it.
func (r *run) ends(f *frame, region int) {
	h, ok := f.Set[region]
	if !ok {
		r.fault = api.FTouch
		return
	}
	f.Drop(region)
	if h.Owns {
		r.meter.end(h.Instance)
	}
}

// allocate lets a new cell lie in a region, and tells whether it can.
func (r *run) allocate(f *frame, region int, c *cell, words int) bool {
	if r.meter == nil {
		return true
	}
	h, ok := f.Set[region]
	if !ok || r.meter.instances[h.Instance].ended {
		r.fault = api.FTouch
		return false
	}
	c.instance = h.Instance
	r.meter.instances[h.Instance].words += words
	r.meter.record(api.VAlloc, h.Instance, words, words)
	return true
}

// touch notes that a cell is read or written, and tells whether it can be. A value without a cell is not touched.
func (r *run) touch(c *cell) bool {
	if r.meter == nil || c == nil {
		return true
	}
	if r.meter.instances[c.instance].ended {
		r.fault = api.FTouch
		return false
	}
	r.meter.record(api.VTouch, c.instance, 0, 0)
	return true
}

// given are the handles that a callee gets, one for each formal that it may touch; none and false if the caller has not all of them.
func (f *frame) given(s *step, callee *routine) ([]handles.Handle, bool) {
	var out []handles.Handle
	for i, formal := range callee.touch {
		h, ok := f.Set[s.regions[formal]]
		if !ok {
			return nil, false
		}
		h.Owns = h.Owns && s.modes[i] == api.Last
		out = append(out, h)
	}
	return out, true
}
