package store_test

import (
	"testing"

	"heriot/api"
	"heriot/samples"
	"heriot/steps"
	"heriot/store"
)

// stage plays the events of a run on a store.
type stage struct {
	*testing.T
	store *store.Store
	cells map[int]int // the address of a cell of each region that has one
	most  int         // the greatest number of pages so far
}

// event plays one event.
func (s *stage) event(e api.Event) {
	switch e.Kind {
	case api.VNew:
		opens(s.T, s.store, e.Region)
	case api.VAlloc:
		address, errno := s.store.Alloc(e.Region, e.Words)
		if errno != api.OK {
			s.Errorf("%+v: error %d", e, errno)
		}
		s.cells[e.Region] = address
	case api.VTouch:
		has(s.T, s.store, e.Region, s.cells[e.Region], 0, 0)
	case api.VEnd:
		closes(s.T, s.store, e.Region, api.OK)
	}
	s.most = max(s.most, s.store.Pages())
	if s.store.Words() != e.Held {
		s.Errorf("%+v: the store has %d words", e, s.store.Words())
	}
}

// TestEvents: the events of runs fit a store (P9): what is touched is open, and the words are those that are held; all pages wait at the end, and there are as many as were needed at once.
func TestEvents(t *testing.T) {
	t.Parallel()
	ended, events := 0, 0
	for seed := range 3 * rounds {
		run := steps.Run(samples.Regions(seed), []int64{int64(seed % 7), int64(seed % 5)}, seed)
		s := &stage{T: t, store: store.New(), cells: map[int]int{}}
		isBig := false
		for _, e := range run.Events {
			s.event(e)
			isBig = isBig || e.Words > api.PageWords && e.Kind == api.VAlloc
		}
		events += len(run.Events)
		if run.Result.Fault != api.FFuel {
			ended++
			counts(t, s.store, 0, 0, s.store.Free())
			if !isBig && s.store.Free() != s.most {
				t.Errorf("%d pages wait, and at once %d were needed", s.store.Free(), s.most)
			}
		}
		if t.Failed() {
			t.Fatalf("program %d", seed)
		}
	}
	if ended < rounds || events < 50*rounds {
		t.Errorf("too few cases: %d ended, %d events", ended, events)
	}
}
