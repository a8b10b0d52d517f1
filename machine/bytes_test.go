package machine_test

import (
	"math/rand"
	"slices"
	"testing"

	"heriot/api"
	"heriot/machine"
	"heriot/samples"
)

// isImage looks at whether bytes are taken as an image, by all functions and by the judge.
func isImage(t *testing.T, image []byte) bool {
	t.Helper()
	_, want := judgeImage(image)
	run, e := machine.Run(image, nil, 5)
	at, atE := machine.At(image, nil, 5, 1)
	depth, depthE := machine.Depth(image, nil, 5)
	if (e == api.OK) != want || atE != e || depthE != e || e != api.OK && e != api.ErrImage {
		t.Errorf("errors %d, %d and %d, the judge: %v, of %v", e, atE, depthE, want, image)
	}
	if e != api.OK && (!isSame(run, api.Run{}) || !isSame(at, api.Run{}) || depth != 0) {
		t.Errorf("with an error: %+v, %+v, %d", run, at, depth)
	}
	return want
}

// isObject looks at whether bytes are taken as an object, by Link and by the judge.
func isObject(t *testing.T, object []byte) bool {
	t.Helper()
	_, want := judgeObject(object)
	if image, e := machine.Link([][]byte{object}); (e != api.ErrObject) != want || (e == api.OK) != (len(image) > 0) {
		t.Errorf("error %d, %v, the judge: %v, of %v", e, image, want, object)
	}
	return want
}

// TestDamaged: P8.3: of images and objects that were damaged, some are refused, and the others run as the judge says.
func TestDamaged(t *testing.T) {
	t.Parallel()
	taken, refused := 0, 0
	for seed := range 40 * rounds {
		some := rand.New(rand.NewSource(int64(seed)))
		image := samples.Bytes(samples.Image(seed / 10))
		if seed%5 == 0 {
			image = imageOf(t, samples.Mutual(seed/50))
		}
		image = damaged(some, image)
		if isImage(t, image) {
			for _, args := range [][]int64{nil, {1}, {3, 2}} {
				held(t, image, args, seed%30)
			}
			taken++
		} else {
			refused++
		}
		object := damaged(some, compiled(t, samples.Regions(seed/50), 0))
		isObject(t, object)
		if t.Failed() {
			t.Fatalf("%d", seed)
		}
	}
	if taken < rounds || refused < rounds {
		t.Errorf("too few cases: %d taken, %d refused", taken, refused)
	}
}

// TestBeginningsOfBytes: nothing is missing, and nothing stands behind.
func TestBeginningsOfBytes(t *testing.T) {
	t.Parallel()
	for seed := range 5 {
		image := samples.Bytes(samples.Image(seed))
		object := compiled(t, samples.Regions(seed), 0)
		for end := range image {
			if isImage(t, image[:end]) {
				t.Errorf("%d bytes of %d are an image", end, len(image))
			}
		}
		for end := range object {
			if isObject(t, object[:end]) {
				t.Errorf("%d bytes of %d are an object", end, len(object))
			}
		}
		for more := range 3 {
			if isImage(t, append(slices.Clone(image), byte(more))) || isObject(t, append(slices.Clone(object), byte(more))) {
				t.Errorf("more bytes than there are")
			}
		}
		if !isImage(t, image) || !isObject(t, object) || isImage(t, object) || isObject(t, image) {
			t.Errorf("an image or an object is none")
		}
	}
	isImage(t, nil)
	isObject(t, []byte{})
}

// TestAnyBytes: bytes by chance, with a right begin.
func TestAnyBytes(t *testing.T) {
	t.Parallel()
	for seed := range 100 * rounds {
		some := rand.New(rand.NewSource(int64(seed)))
		bytes := make([]byte, some.Intn(40))
		for i := range bytes {
			bytes[i] = byte(some.Intn(1 + some.Intn(256)))
		}
		isImage(t, bytes)
		isObject(t, bytes)
		isImage(t, append([]byte("HRI\x01"), bytes...))
		isObject(t, append([]byte("HRO\x01"), bytes...))
		isImage(t, append([]byte("HRI\x01\x01\x04main"), bytes...))
		isObject(t, append([]byte("HRO\x01\x00\x00\x01\x04main"), bytes...))
	}
}

// TestUnchanged: arguments are not changed, and nothing is kept from call to call.
func TestUnchanged(t *testing.T) {
	t.Parallel()
	for seed := range rounds {
		image := samples.Bytes(samples.Image(seed))
		kept, args := slices.Clone(image), []int64{3, 4}
		run := ran(t, image, args, 50)
		at, _ := machine.At(image, args, 50, 3)
		depthOf(t, image, args, 50)
		for i := range at.Events {
			at.Events[i].Held = -1
		}
		for i := range at.Result.Outs {
			at.Result.Outs[i]--
		}
		if again := ran(t, image, args, 50); !isSame(run, again) || !slices.Equal(image, kept) || !slices.Equal(args, []int64{3, 4}) {
			t.Fatalf("%d: %+v, not %+v", seed, again, run)
		}
		p := unitsByChance(seed)
		text := samples.Write(p)
		object := compiled(t, p, p.Funs[0].Unit)
		first := slices.Clone(object)
		clear(object)
		if again := compiled(t, p, p.Funs[0].Unit); !slices.Equal(again, first) || samples.Write(p) != text {
			t.Fatalf("%d: %v, not %v", seed, again, first)
		}
	}
}
