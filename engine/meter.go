package engine

import "heriot/api"

// meter knows the instances of a run, and how many words they hold.
type meter struct {
	instances []instance
	held      int
	peak      int
	count     int // of the events
	events    []api.Event
	stop      int // the event at which the frames are looked at, and the run is over; 0 if the events are kept
	look      func() []api.Frame
	seen      []api.Frame
}

type instance struct {
	words int
	ended bool
}

// record notes an event by which the held words grow. What its step does to handles has been done.
func (m *meter) record(kind, number, words, grown int) {
	m.held += grown
	m.peak = max(m.peak, m.held)
	m.count++
	if m.stop == 0 {
		m.events = append(m.events, api.Event{Kind: kind, Region: number, Words: words, Held: m.held})
	} else if m.count == m.stop {
		m.seen = m.look()
	}
}

// isOver tells whether nothing of the run is asked for any more.
func (m *meter) isOver() bool { return m != nil && m.seen != nil }

// end ends an instance, if it has not ended.
func (m *meter) end(number int) {
	one := &m.instances[number]
	if one.ended {
		return
	}
	one.ended = true
	m.record(api.VEnd, number, one.words, -one.words)
}
