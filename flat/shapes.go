package flat

import "heriot/api"

// many says that a step may have as many arguments, or blocks, as its rule asks for.
const many = -1

// shape says which fields the steps of an operation have, beside Op, Out and Type: how many arguments and blocks, and whether Int, Code and Types.
type shape struct {
	args   int
	blocks int
	number bool
	code   bool
	types  bool
}

func shapeOf(op int) (shape, bool) {
	switch op {
	case api.OInt, api.OBool:
		return shape{number: true}, true
	case api.OUnit:
		return shape{}, true
	case api.OMake:
		return shape{args: many, code: true}, true
	case api.OTuple:
		return shape{args: many}, true
	case api.OGet:
		return shape{args: 1, number: true}, true
	case api.OCall:
		return shape{args: many, code: true, types: true}, true
	case api.OFn:
		return shape{blocks: 1}, true
	case api.OPut:
		return shape{args: 3}, true
	case api.ORaise:
		return shape{args: 1, code: true}, true
	case api.OHandle:
		return shape{blocks: many}, true
	case api.OIf:
		return shape{args: 1, blocks: 2}, true
	case api.OCase:
		return shape{args: 1, blocks: many}, true
	case api.ORef, api.ODeref, api.OLen, api.OPrint:
		return shape{args: 1}, true
	case api.OApply, api.OSet, api.OArray, api.OAt:
		return shape{args: 2}, true
	}
	return shape{args: 2}, op >= api.OAdd && op <= api.OLess
}

// isShaped tells whether a step has the fields of its operation and no others.
func isShaped(s *api.Step) bool {
	has, ok := shapeOf(s.Op)
	return ok && isCount(len(s.Args), has.args) && isCount(len(s.Blocks), has.blocks) &&
		(has.number || s.Int == 0) && (has.code || s.Code == 0) && (has.types || len(s.Types) == 0) && isWithoutRegions(s)
}

func isCount(count, want int) bool { return count == want || want == many }

func isWithoutRegions(s *api.Step) bool {
	return s.Region == 0 && len(s.Regions) == 0 && len(s.Effects) == 0 && len(s.Modes) == 0 && len(s.Keep) == 0
}
