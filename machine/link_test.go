package machine_test

import (
	"math/rand"
	"slices"
	"strings"
	"testing"

	"heriot/api"
	"heriot/machine"
	"heriot/samples"
)

// Objects in the notation of samples.Bytes: a unit of two functions, an empty one, one that calls the first, and one with main.
const (
	objectA     = "HRO 0 0 [('one 1 2 1 [0] [[(end 0) (raise 4 0) (return 0)]]) ('two 0 1 0 [] [[(load 0 #2) (return 0)]])] [(4 'why)] 0"
	objectEmpty = "HRO 1 2 [] [] 0"
	objectC     = "HRO 2 2 [('three 0 2 1 [] [[(new 0) (call 0 1 [] []) (call 1 0 [0] [(0 1)]) (return 1)]])] [] 0"
	objectMain  = "HRO 5 3 [('main 1 2 0 [] [[(call 1 2 [] []) (raise 3 1)]])] [(3 'no)] 1"
)

func links(t *testing.T, want api.Errno, objects ...string) {
	t.Helper()
	var all [][]byte
	for _, text := range objects {
		all = append(all, samples.Bytes(text))
	}
	linksTo(t, want, all)
}

// linksTo looks at the image of objects, or at the error, and at what the judge says.
func linksTo(t *testing.T, want api.Errno, objects [][]byte) []byte {
	t.Helper()
	kept := slices.Clone(objects)
	for i := range kept {
		kept[i] = slices.Clone(kept[i])
	}
	image, e := machine.Link(objects)
	wanted, judged := judgeLink(objects)
	if e != want || judged != want || !slices.Equal(image, wanted) {
		t.Errorf("Link: error %d, %v, not error %d; the judge: error %d, %v; of %v", e, image, want, judged, wanted, objects)
	}
	if !slices.EqualFunc(kept, objects, slices.Equal) {
		t.Errorf("Link changes %v", kept)
	}
	if e == api.OK {
		if _, e := machine.Run(image, nil, 0); e != api.OK {
			t.Errorf("Run of what was linked: error %d", e)
		}
	}
	return image
}

// TestLink: what fits, and what does not.
func TestLink(t *testing.T) {
	links(t, api.OK, objectA, objectEmpty, objectC, objectMain)
	links(t, api.OK, objectA, objectC, objectMain)
	image := samples.Bytes("HRI [('one 1 2 1 [0] [[(end 0) (raise 4 0) (return 0)]]) ('two 0 1 0 [] [[(load 0 #2) (return 0)]]) ('three 0 2 1 [] [[(new 0) (call 0 1 [] []) (call 1 0 [0] [(0 1)]) (return 1)]]) ('main 1 2 0 [] [[(call 1 2 [] []) (raise 3 1)]])] [(3 'no) (4 'why)] 3")
	if got, _ := machine.Link([][]byte{samples.Bytes(objectA), samples.Bytes(objectC), samples.Bytes(objectMain)}); !slices.Equal(got, image) {
		t.Errorf("%v, not %v", got, image)
	}
	const alone = "HRO 0 0 [('main 1 2 0 [] [[(call 1 1 [0] []) (return 1)]]) ('same 1 1 0 [] [[(return 0)]])] [] 1"
	links(t, api.OK, alone)
	links(t, api.OK, "HRO 1 0 [] [] 0", "HRO 15 0 [('main 0 1 0 [] [[(load 0 #2) (return 0)]])] [] 1")
	links(t, api.ErrLink)
	linksTo(t, api.ErrLink, [][]byte{})
	links(t, api.ErrLink, objectEmpty)
	links(t, api.ErrLink, objectA, objectC) // no main
	links(t, api.ErrLink, objectMain)       // the functions ahead are not there
	links(t, api.ErrLink, objectA, objectMain)
	links(t, api.ErrLink, objectC, objectA, objectMain)
	links(t, api.ErrLink, objectA, objectC, objectC, objectMain)
	links(t, api.ErrLink, objectA, objectC, objectMain, "HRO 6 4 [] [] 0")                     // main is not in the last one
	links(t, api.ErrLink, alone, "HRO 1 2 [('main 0 1 0 [] [[(load 0 #2) (return 0)]])] [] 1") // two mains
	links(t, api.ErrLink, "HRO 5 0 [('one 0 1 0 [] [[(load 0 #2) (return 0)]])] [] 0", "HRO 5 1 [('main 0 1 0 [] [[(load 0 #2) (return 0)]])] [] 1")
	links(t, api.ErrLink, "HRO 6 0 [('one 0 1 0 [] [[(load 0 #2) (return 0)]])] [] 0", "HRO 5 1 [('main 0 1 0 [] [[(load 0 #2) (return 0)]])] [] 1")
	// An error of one object is ahead of all that does not fit.
	links(t, api.ErrObject, objectMain, "HRO 5 3 [] [] 1")
	links(t, api.ErrObject, "HRO 16 0 [] [] 0")
	linksTo(t, api.ErrObject, [][]byte{nil})
	linksTo(t, api.ErrObject, [][]byte{samples.Bytes(alone), {}})
}

// TestCallsOfOthers: a call of a function of another object has what that asks for.
func TestCallsOfOthers(t *testing.T) {
	for call, want := range map[string]api.Errno{
		"(call 1 0 [0] [(0 1)])": api.OK, "(call 1 0 [] [(0 1)])": api.ErrLink, "(call 1 0 [0 0] [(0 1)])": api.ErrLink, "(call 1 0 [0] [])": api.ErrLink, "(call 1 0 [0] [(0 1)(0 1)])": api.ErrLink,
		"(call 1 1 [] [])": api.OK, "(call 1 1 [0] [])": api.ErrLink, "(call 1 1 [] [(0 0)])": api.ErrLink,
		"(call 1 2 [0] [])": api.OK, "(call 1 2 [] [])": api.ErrObject, "(call 1 2 [0] [(0 0)])": api.ErrObject, "(call 1 3 [0] [])": api.ErrObject,
		"(call 1 9223372036854775807 [0] [])": api.ErrObject,
	} {
		links(t, want, objectA, "HRO 2 2 [('main 1 2 1 [] [["+call+" (return 0)]])] [] 1")
	}
	// A number of functions ahead that no program has.
	links(t, api.ErrLink, "HRO 2 9223372036854775807 [('main 1 2 1 [] [[(call 1 9223372036854775806 [] []) (return 0)]])] [] 1")
	links(t, api.ErrObject, "HRO 2 9223372036854775807 [('main 1 2 1 [] [[(call 1 9223372036854775807 [] []) (return 0)]])] [] 1")
	links(t, api.ErrLink, "HRO 2 9223372036854775807 [('main 1 2 1 [] [[(call 1 9223372036854775807 [0] []) (return 0)]])] [] 1")
}

// TestMains: how many parameters main may have, and that it touches no region of others.
func TestMains(t *testing.T) {
	for head, want := range map[string]api.Errno{
		"0 4 3 []": api.OK, "4 4 3 []": api.OK, "5 5 3 []": api.ErrLink, "0 4 3 [0]": api.ErrLink, "0 4 3 [2]": api.ErrLink,
	} {
		links(t, want, "HRO 2 0 [('main "+head+" [[(load 0 #1) (return 0)]])] [] 1")
		links(t, want, "HRO 0 0 [('one 0 1 1 [0] [[(raise 0 0)]])] [] 0", "HRO 2 1 [('one 5 5 1 [0] [[(raise 0 0)]]) ('main "+head+" [[(load 0 #1) (return 0)]])] [] 2")
	}
}

// TestExceptions: exceptions are joined by their numbers, each with one text.
func TestExceptions(t *testing.T) {
	one := func(exn, name string) string {
		return "HRO 0 0 [('one 0 1 0 [] [[(raise " + exn + " 0)]])] [(" + exn + " '" + name + ")] 0"
	}
	two := func(exn, name string) string {
		return "HRO 1 1 [('two 0 1 0 [] [[(raise " + exn + " 0)]])] [(" + exn + " '" + name + ")] 0"
	}
	main := func(a, nameA, b, nameB string) string {
		return "HRO 2 2 [('main 0 1 0 [] [[(raise " + a + " 0)] [(raise " + b + " 0)]])] [(" + a + " '" + nameA + ")(" + b + " '" + nameB + ")] 1"
	}
	links(t, api.OK, one("9", "no"), two("4", "why"), main("4", "why", "9", "no"))
	links(t, api.OK, one("9", "no"), two("4", "no"), main("3", "no", "16383", "no"))
	links(t, api.OK, one("9", ""), two("9", ""), main("9", "", "16383", "no"))
	links(t, api.ErrLink, one("9", "no"), two("9", "why"), main("4", "why", "5", "no"))
	links(t, api.ErrLink, one("9", "no"), two("4", "why"), main("4", "why", "9", "no2"))
	links(t, api.ErrLink, one("9", "no"), two("4", ""), main("4", "why", "9", "no"))
	links(t, api.ErrObject, one("16384", "no"), two("4", "why"), main("4", "why", "9", "no"))
	links(t, api.ErrObject, one("2", "Size"), two("4", "why"), main("4", "why", "9", "no"))
}

// TestManyFunctions: at most MaxNodes in all.
func TestManyFunctions(t *testing.T) {
	object := func(unit, ahead, count, main int) string {
		return samples.Text("HRO ", unit, " ", ahead, " [", strings.Repeat("('f 0 1 0 [] [[(raise 0 0)]])", count), "] [] ", main)
	}
	const half = api.MaxNodes / 2
	links(t, api.OK, object(0, 0, half, 0), object(1, half, half, half))
	links(t, api.ErrLink, object(0, 0, half, 0), object(1, half, half+1, 1))
	links(t, api.OK, object(0, 0, 2*half, 1))
	links(t, api.ErrObject, object(0, 0, 2*half+1, 1))
}

// TestLinkByChance: objects of programs by chance, some left away, twice, exchanged or damaged.
func TestLinkByChance(t *testing.T) {
	t.Parallel()
	errors := map[api.Errno]int{}
	for seed := range 10 * rounds {
		some := rand.New(rand.NewSource(int64(seed)))
		p := unitsByChance(seed)
		var objects [][]byte
		for unit := range 1 + p.Funs[len(p.Funs)-1].Unit {
			objects = append(objects, compiled(t, p, unit))
		}
		if seed%3 == 0 {
			i := some.Intn(len(objects))
			objects = slices.Delete(objects, i, i+1)
		}
		if seed%5 == 0 && len(objects) > 0 {
			i := some.Intn(len(objects))
			objects = slices.Insert(objects, some.Intn(len(objects)+1), objects[i])
		}
		if seed%2 == 0 && len(objects) > 0 {
			i := some.Intn(len(objects))
			objects[i] = damaged(some, objects[i])
		}
		_, want := judgeLink(objects)
		linksTo(t, want, objects)
		errors[want]++
		if t.Failed() {
			t.Fatalf("%d", seed)
		}
	}
	if errors[api.OK] < rounds || errors[api.ErrLink] < rounds || errors[api.ErrObject] < rounds {
		t.Errorf("too few cases: %v", errors)
	}
}

// damaged is a list of bytes with something changed.
func damaged(some *rand.Rand, bytes []byte) []byte {
	out := slices.Clone(bytes)
	i := some.Intn(len(out))
	switch some.Intn(6) {
	case 0:
		return out[:i]
	case 1:
		return slices.Insert(out, i, byte(some.Intn(256)))
	case 2:
		return slices.Delete(out, i, i+1)
	case 3:
		out[i]++
	case 4:
		out[i] = byte(some.Intn(30))
	default:
		out[i] = byte(some.Intn(256))
	}
	return out
}
