package flat

import (
	"heriot/api"
	"heriot/outline"
)

func isA(t *api.Type, kind int) bool { return t.Kind == kind }

// isOf tells whether a type is the ref, or the array, of another one.
func isOf(t *api.Type, kind int, part *api.Type) bool {
	return t.Kind == kind && areSame(&t.Args[0], part)
}

// areInts tells whether the types of all arguments are int.
func areInts(args []*api.Type) bool {
	for _, t := range args {
		if t.Kind != api.TInt {
			return false
		}
	}
	return true
}

// isRight tells whether a step of a right shape is right, with its arguments of these types, but for what stands in its blocks.
func (b *body) isRight(s *api.Step, t []*api.Type) bool {
	out := &s.Type
	switch s.Op {
	case api.OMake:
		return b.isMake(s, t)
	case api.OTuple:
		return isA(out, api.TTuple) && allAre(t, out.Args)
	case api.OGet:
		return isA(t[0], api.TTuple) && s.Int >= 0 && s.Int < int64(len(t[0].Args)) && areSame(&t[0].Args[s.Int], out)
	case api.OCall:
		return b.isCall(s, t)
	case api.OFn:
		return isA(out, api.TArrow) && len(s.Blocks[0].Bind) == 1
	case api.OApply:
		return isA(t[0], api.TArrow) && areSame(&t[0].Args[0], t[1]) && areSame(&t[0].Args[1], out)
	case api.ORef:
		return isOf(out, api.TRef, t[0])
	case api.ODeref:
		return isOf(t[0], api.TRef, out)
	case api.OSet:
		return isOf(t[0], api.TRef, t[1]) && isA(out, api.TUnit)
	case api.OArray:
		return isA(t[0], api.TInt) && isOf(out, api.TArray, t[1])
	case api.OAt:
		return isOf(t[0], api.TArray, out) && isA(t[1], api.TInt)
	case api.OPut:
		return isOf(t[0], api.TArray, t[2]) && isA(t[1], api.TInt) && isA(out, api.TUnit)
	case api.OLen:
		return isA(t[0], api.TArray) && isA(out, api.TInt)
	case api.ORaise:
		return areInts(t) && b.isExn(s.Code)
	case api.OHandle:
		return outline.AreArms(s.Blocks, len(b.Exns))
	case api.OIf:
		return isA(t[0], api.TBool) && len(s.Blocks[0].Bind) == 0 && len(s.Blocks[1].Bind) == 0
	case api.OCase:
		return isA(t[0], api.TData) && outline.AreCases(s.Blocks, &b.Datas[t[0].N])
	}
	return areInts(t) && isSimple(s)
}

// isSimple tells whether a step whose arguments are ints, if it has any, gives what its operation gives.
func isSimple(s *api.Step) bool {
	switch s.Op {
	case api.OBool:
		return isA(&s.Type, api.TBool) && (s.Int == 0 || s.Int == 1)
	case api.OEq, api.OLess:
		return isA(&s.Type, api.TBool)
	case api.OUnit, api.OPrint:
		return isA(&s.Type, api.TUnit)
	}
	return isA(&s.Type, api.TInt)
}

func (b *body) isMake(s *api.Step, args []*api.Type) bool {
	if !isA(&s.Type, api.TData) {
		return false
	}
	cons := b.Datas[s.Type.N].Cons
	return s.Code >= 0 && s.Code < len(cons) && allFit(args, cons[s.Code].Fields, s.Type.Args)
}

func (b *body) isCall(s *api.Step, args []*api.Type) bool {
	if s.Code < 0 || s.Code >= len(b.Funs) || !b.areTypes(s.Types, b.fun.Types, len(b.Datas)) {
		return false
	}
	f := &b.Funs[s.Code]
	return len(s.Types) == f.Types && allFit(args, f.Params, s.Types) && fits(&s.Type, &f.Result, s.Types)
}

func (b *body) isExn(code int) bool { return code >= 0 && code < len(b.Exns) }
