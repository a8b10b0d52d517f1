package outline

import "heriot/api"

// many says that a step may have as many arguments, or blocks, as its rule asks for.
const many = -1

// shape says which fields the steps of an operation have, beside Op, Out and Type: how many arguments and blocks, and whether Int, Code and Region. Known calls and handles have fields that no others have.
type shape struct {
	args   int
	blocks int
	number bool
	code   bool
	region bool
}

func shapeOf(op int) (shape, bool) {
	switch op {
	case api.OInt, api.OBool:
		return shape{number: true}, true
	case api.OUnit:
		return shape{}, true
	case api.OMake:
		return shape{args: many, code: true, region: true}, true
	case api.OTuple:
		return shape{args: many, region: true}, true
	case api.OGet:
		return shape{args: 1, number: true}, true
	case api.OCall:
		return shape{args: many, code: true}, true
	case api.OFn:
		return shape{blocks: 1, region: true}, true
	case api.OPut:
		return shape{args: 3}, true
	case api.ORaise:
		return shape{args: 1, code: true}, true
	case api.OHandle:
		return shape{blocks: many}, true
	case api.OIf:
		return shape{args: 1, blocks: 2}, true
	case api.OCase:
		return shape{args: 1, blocks: many}, true
	case api.ORef:
		return shape{args: 1, region: true}, true
	case api.OArray:
		return shape{args: 2, region: true}, true
	case api.ODeref, api.OLen, api.OPrint:
		return shape{args: 1}, true
	case api.OApply, api.OSet, api.OAt:
		return shape{args: 2}, true
	case api.ONew, api.OEnd:
		return shape{region: true}, true
	}
	return shape{args: 2}, op >= api.OAdd && op <= api.OLess
}

// IsShaped tells whether a step has no fields that its operation has not, and as many arguments and blocks as that has.
func IsShaped(s *api.Step) bool {
	has, ok := shapeOf(s.Op)
	return ok && isCount(len(s.Args), has.args) && isCount(len(s.Blocks), has.blocks) &&
		(has.number || s.Int == 0) && (has.code || s.Code == 0) && (has.region || s.Region == 0) &&
		(s.Op == api.OCall || isNoCall(s)) && (s.Op == api.OHandle || len(s.Keep) == 0)
}

func isCount(count, want int) bool { return count == want || want == many }

func isNoCall(s *api.Step) bool {
	return len(s.Types) == 0 && len(s.Regions) == 0 && len(s.Effects) == 0 && len(s.Modes) == 0
}

// HasParts tells whether a type has a kind, as many parts as that has, and no name; and a number only where its kind has one, of these data types if it is one.
func HasParts(t *api.Type, datas []api.Data) bool {
	switch {
	case t.Name != "":
		return false
	case t.Kind == api.TVar:
		return t.N >= 0 && len(t.Args) == 0
	case t.Kind == api.TData:
		return t.N >= 0 && t.N < len(datas) && len(t.Args) == len(datas[t.N].Vars)
	}
	return t.N == 0 && isCountOf(t.Kind, len(t.Args))
}

// isCountOf tells whether types of a kind, which have no number, have so many parts.
func isCountOf(kind, parts int) bool {
	switch kind {
	case api.TInt, api.TBool, api.TUnit:
		return parts == 0
	case api.TTuple:
		return parts >= 2
	case api.TArrow:
		return parts == 2
	case api.TRef, api.TArray:
		return parts == 1
	}
	return false
}

// AreArms tells whether blocks are those of a handle: what is tried, what comes behind it, and an arm for each of some exceptions, of which there are so many.
func AreArms(blocks []api.Block, exns int) bool {
	if len(blocks) < 2 || len(blocks[0].Bind) != 0 || len(blocks[1].Bind) != 1 {
		return false
	}
	ahead := map[int]bool{}
	for i := range blocks[2:] {
		arm := &blocks[2+i]
		if len(arm.Bind) != 1 || arm.Code < 0 || arm.Code >= exns || ahead[arm.Code] {
			return false
		}
		ahead[arm.Code] = true
	}
	return true
}

// AreCases tells whether blocks are those of a case of a data type: one for each constructor, which binds its fields.
func AreCases(blocks []api.Block, d *api.Data) bool {
	if len(blocks) != len(d.Cons) {
		return false
	}
	for i, con := range d.Cons {
		if len(blocks[i].Bind) != len(con.Fields) {
			return false
		}
	}
	return true
}

// IsBelow tells whether a number is one of so many, from 0 on.
func IsBelow(n, bound int) bool { return n >= 0 && n < bound }

// IsRising tells whether numbers rise, and are below a bound.
func IsRising(list []int, bound int) bool {
	for i, n := range list {
		if !IsBelow(n, bound) || i > 0 && n <= list[i-1] {
			return false
		}
	}
	return true
}
