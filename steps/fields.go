package steps

import (
	"heriot/api"
	"heriot/outline"
)

// isRight tells whether a step that has the fields of its operation has right ones, but for what stands in its blocks.
func (p shaped) isRight(s *api.Step) bool {
	out := s.Type.Kind
	switch s.Op {
	case api.OInt:
		return out == api.TInt
	case api.OBool:
		return out == api.TBool && (s.Int == 0 || s.Int == 1)
	case api.OUnit:
		return out == api.TUnit
	case api.OMake:
		return out == api.TData && p.isMake(s)
	case api.OTuple:
		return out == api.TTuple && len(s.Args) == len(s.Type.Args) && s.Region == s.Type.Region
	case api.OGet:
		return s.Int >= 0
	case api.OCall:
		return outline.IsBelow(s.Code, len(p.Funs)) && p.isCall(s, &p.Funs[s.Code])
	case api.OFn:
		return out == api.TArrow && s.Region == s.Type.Region && len(s.Blocks[0].Bind) == 1
	case api.ORef:
		return out == api.TRef && s.Region == s.Type.Region
	case api.OArray:
		return out == api.TArray && s.Region == s.Type.Region
	case api.ORaise:
		return outline.IsBelow(s.Code, len(p.Exns))
	case api.OHandle:
		return outline.IsRising(s.Keep, api.MaxNodes) && outline.AreArms(s.Blocks, len(p.Exns))
	case api.OIf:
		return len(s.Blocks[0].Bind) == 0 && len(s.Blocks[1].Bind) == 0
	case api.OCase:
		return len(s.Blocks) > 0
	}
	return true
}

func (p shaped) isMake(s *api.Step) bool {
	cons := p.Datas[s.Type.N].Cons
	if !outline.IsBelow(s.Code, len(cons)) || len(s.Args) != len(cons[s.Code].Fields) {
		return false
	}
	if len(s.Args) == 0 {
		return s.Region == 0
	}
	return s.Region == s.Type.Region
}

func (p shaped) isCall(s *api.Step, f *api.Fun) bool {
	if len(s.Args) != len(f.Params) || len(s.Types) != f.Types || len(s.Regions) != f.Regions {
		return false
	}
	if len(s.Effects) != f.Effects || len(s.Modes) != len(f.Touch.Regions) {
		return false
	}
	in := p.inSteps()
	for i := range s.Effects {
		if !in.isEffect(&s.Effects[i]) {
			return false
		}
	}
	for _, mode := range s.Modes {
		if mode != api.Keep && mode != api.Last {
			return false
		}
	}
	return areBelow(s.Regions, api.MaxNodes) && in.areTypes(s.Types)
}
