package bounds_test

import (
	"testing"

	"heriot/api"
	"heriot/bounds"
	"heriot/samples"
	"heriot/steps"
)

// TestStraight: P9.6: where nothing is chosen, what is found says just what a run needs.
func TestStraight(t *testing.T) {
	t.Parallel()
	looked, peaks := 0, map[int]bool{}
	for seed := range 1500 {
		p := samples.Straight(seed)
		if countSteps(p) > 100 {
			continue
		}
		if e, at := steps.Check(p); e != api.OK {
			t.Fatalf("%d: Check: %d %v", seed, e, at)
		}
		certs, e := bounds.Find(p)
		if e != api.OK {
			t.Fatalf("%d: Find: %d: %s", seed, e, samples.Write(p))
		}
		verifiedIs(t, p, certs, api.OK)
		args := []int64{int64(seed % 7), int64(seed%5) - 2}
		run := steps.Run(p, args, api.MaxFuel)
		if run.Result.Fault != api.FNone {
			continue
		}
		if got, e := bounds.Bound(p, certs, args); got != int64(run.Peak) || e != api.OK {
			t.Fatalf("%d: Bound: %d %d, not %d: %s", seed, got, e, run.Peak, samples.Write(p))
		}
		looked++
		peaks[run.Peak] = true
	}
	if looked < 1000 || len(peaks) < 15 {
		t.Errorf("too few cases: %d, %d peaks", looked, len(peaks))
	}
}

// countSteps is how many steps a program has, at all depths.
func countSteps(p api.Program) int {
	count := 0
	var look func(b api.Block)
	look = func(b api.Block) {
		count += len(b.Steps)
		for _, s := range b.Steps {
			for _, b := range s.Blocks {
				look(b)
			}
		}
	}
	for _, f := range p.Funs {
		look(f.Body)
	}
	return count
}
