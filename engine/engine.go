// Package engine runs programs in steps, with regions or without. It relies on the checks of the layers that call it: that a program is shaped and typed as its chapter says.
package engine

import "heriot/api"

// Run is what a run of a program comes to whose cells lie in no regions.
func Run(p *api.Program, args []int64, fuel int) api.Result {
	r := begin(p, args, fuel, nil)
	return r.result(p.Exns)
}

// Metered is a run of a program whose cells lie in regions.
func Metered(p *api.Program, args []int64, fuel int) api.Run {
	m := &meter{}
	r := begin(p, args, fuel, m)
	return api.Run{Result: r.result(p.Exns), Peak: m.peak, Left: m.held, Events: m.events}
}

// FramesAt are the frames of a run of a program whose cells lie in regions, when so many events have been; none if there are fewer.
func FramesAt(p *api.Program, args []int64, fuel, events int) []api.Frame {
	if events < 1 {
		return nil
	}
	m := &meter{stop: events}
	r := begin(p, args, fuel, m)
	m.look = r.look
	r.result(p.Exns)
	return m.seen
}

// begin makes a run ready to be gone on with.
func begin(p *api.Program, args []int64, fuel int, m *meter) *run {
	r := &run{funs: prepare(p), fuel: min(max(fuel, 0), api.MaxFuel), meter: m}
	var values []value
	for _, n := range args {
		values = append(values, value{number: n})
	}
	r.call(r.funs[p.Main], values...)
	return r
}
