package machine_test

import (
	"testing"

	"heriot/api"
	"heriot/machine"
	"heriot/samples"
)

// held looks at what the machine makes of an image, and at what the judge makes: the run, its depth and its beginnings.
func held(t *testing.T, image []byte, args []int64, fuel int) *judgedRun {
	t.Helper()
	j, ok := judgeImage(image)
	got, e := machine.Run(image, args, fuel)
	if !ok {
		t.Fatalf("the judge refuses the image (Run: error %d)", e)
	}
	r := judge(j, args, fuel)
	if e != api.OK || !isSame(got, r.out) {
		t.Errorf("Run with %v, fuel %d: error %d, %+v, not %+v", args, fuel, e, got, r.out)
	}
	if depth, e := machine.Depth(image, args, fuel); depth != r.depth || e != api.OK {
		t.Errorf("Depth with %v, fuel %d: %d and error %d, not %d", args, fuel, depth, e, r.depth)
	}
	for _, k := range []int{-1, 0, 1, 2, len(got.Events) / 2, len(got.Events) - 1, len(got.Events)} {
		if at, e := machine.At(image, args, fuel, k); e != api.OK || !isSame(at, r.at(k)) {
			t.Errorf("At %d with %v, fuel %d: error %d, %+v, not %+v", k, args, fuel, e, at, r.at(k))
		}
	}
	return r
}

// TestImages: P8.3, P8.4 and P8.5, for images by chance.
func TestImages(t *testing.T) {
	t.Parallel()
	faults, deep, long, spare := map[int]int{}, 0, 0, 0
	for seed := range 50 * rounds {
		text := samples.Image(seed)
		args := []int64{int64(seed%5) - 1, int64(seed % 3)}
		r := held(t, samples.Bytes(text), args, seed%100)
		if t.Failed() {
			t.Fatalf("%d: %s", seed, text)
		}
		if r.depth < 1 || r.depth > 1+r.out.Result.Ticks {
			t.Fatalf("%d: depth %d with %d ticks: %s", seed, r.depth, r.out.Result.Ticks, text)
		}
		faults[r.out.Result.Fault]++
		if r.depth > 2 {
			deep++
		}
		if len(r.out.Events) > 20 {
			long++
		}
		spare += r.spare
	}
	for _, fault := range []int{api.FNone, api.FExn, api.FFuel, api.FStuck, api.FTouch} {
		if faults[fault] < rounds {
			t.Errorf("too few cases: %v", faults)
		}
	}
	if deep < 5*rounds || long < 5*rounds || spare < 5*rounds {
		t.Errorf("too few cases: %d are deep, %d are long, %d frames are not needed", deep, long, spare)
	}
}
