package machine_test

import (
	"math"
	"reflect"
	"slices"
	"testing"

	"heriot/api"
	"heriot/flat"
	"heriot/machine"
	"heriot/place"
	"heriot/types"
	"heriot/words"
)

const rounds = 100

// plenty is more fuel than a run can have.
const plenty = math.MaxInt

// isSame tells whether runs are the same; lists without elements may be nil.
func isSame(a, b api.Run) bool {
	return isSameResult(a.Result, b.Result) && a.Peak == b.Peak && a.Left == b.Left && slices.Equal(a.Events, b.Events)
}

func isSameResult(a, b api.Result) bool {
	if !slices.Equal(a.Outs, b.Outs) {
		return false
	}
	a.Outs, b.Outs = nil, nil
	return reflect.DeepEqual(a, b)
}

// unitsOf reads the texts of units.
func unitsOf(t *testing.T, texts ...string) []api.Unit {
	t.Helper()
	var out []api.Unit
	for _, text := range texts {
		u, r := words.Read(text)
		if r.E != api.OK {
			t.Fatalf("%+v: %s", r, text)
		}
		out = append(out, u)
	}
	return out
}

// flatOf is the flat program of units, if their types are found.
func flatOf(t *testing.T, texts ...string) (api.Program, bool) {
	t.Helper()
	typed, r := types.Infer(unitsOf(t, texts...))
	if r.E != api.OK {
		return api.Program{}, false
	}
	p, e := flat.Flatten(typed)
	return p, e == api.OK
}

// placedOf is the region program of units, which has to be one.
func placedOf(t *testing.T, texts ...string) api.Program {
	t.Helper()
	p, ok := flatOf(t, texts...)
	if !ok {
		t.Fatalf("no program: %s", texts)
	}
	q, e := place.Place(p)
	if e != api.OK {
		t.Fatalf("Place: %d: %s", e, texts)
	}
	return q
}

// compiled is the object of a unit of a program.
func compiled(t *testing.T, p api.Program, unit int) []byte {
	t.Helper()
	object, e := machine.Compile(p, unit)
	if e != api.OK {
		t.Fatalf("Compile of unit %d: %d", unit, e)
	}
	return object
}

func linked(t *testing.T, objects ...[]byte) []byte {
	t.Helper()
	image, e := machine.Link(objects)
	if e != api.OK {
		t.Fatalf("Link: %d", e)
	}
	return image
}

// imageOf is the image of a program.
func imageOf(t *testing.T, p api.Program) []byte {
	t.Helper()
	var objects [][]byte
	for unit := range 1 + p.Funs[len(p.Funs)-1].Unit {
		objects = append(objects, compiled(t, p, unit))
	}
	return linked(t, objects...)
}

func ran(t *testing.T, image []byte, args []int64, fuel int) api.Run {
	t.Helper()
	run, e := machine.Run(image, args, fuel)
	if e != api.OK {
		t.Fatalf("Run: %d", e)
	}
	return run
}

func depthOf(t *testing.T, image []byte, args []int64, fuel int) int {
	t.Helper()
	depth, e := machine.Depth(image, args, fuel)
	if e != api.OK {
		t.Fatalf("Depth: %d", e)
	}
	return depth
}
