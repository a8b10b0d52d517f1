package steps

import (
	"heriot/api"
	"heriot/outline"
)

func isA(t *api.Type, kind int) bool { return t.Kind == kind }

// isOf tells whether a type is the ref, or the array, of another one.
func isOf(t *api.Type, kind int, part *api.Type) bool {
	return t.Kind == kind && outline.AreSame(&t.Args[0], part)
}

// isTyped tells whether a step, with its arguments of these types, has the types that its operation asks for.
func (b *body) isTyped(s *api.Step, t []*api.Type) bool {
	out := &s.Type
	switch s.Op {
	case api.OMake:
		return outline.At(out).AllFit(t, b.Datas[out.N].Cons[s.Code].Fields)
	case api.OTuple:
		return areParts(t, out.Args)
	case api.OGet:
		return isA(t[0], api.TTuple) && s.Int < int64(len(t[0].Args)) && outline.AreSame(&t[0].Args[s.Int], out)
	case api.OCall:
		f, in := &b.Funs[s.Code], outline.Of(s)
		return in.AllFit(t, f.Params) && in.Fits(out, &f.Result)
	case api.OApply:
		return isA(t[0], api.TArrow) && outline.AreSame(&t[0].Args[0], t[1]) && outline.AreSame(&t[0].Args[1], out)
	case api.ORef:
		return outline.AreSame(&out.Args[0], t[0])
	case api.ODeref:
		return isOf(t[0], api.TRef, out)
	case api.OSet:
		return isOf(t[0], api.TRef, t[1]) && isA(out, api.TUnit)
	case api.OArray:
		return isA(t[0], api.TInt) && outline.AreSame(&out.Args[0], t[1])
	case api.OAt:
		return isOf(t[0], api.TArray, out) && isA(t[1], api.TInt)
	case api.OPut:
		return isOf(t[0], api.TArray, t[2]) && isA(t[1], api.TInt) && isA(out, api.TUnit)
	case api.OLen:
		return isA(t[0], api.TArray) && isA(out, api.TInt)
	case api.ORaise:
		return isA(t[0], api.TInt)
	case api.OPrint:
		return isA(t[0], api.TInt) && isA(out, api.TUnit)
	case api.OAdd, api.OSub, api.OMul, api.ODiv, api.OMod:
		return isA(t[0], api.TInt) && isA(t[1], api.TInt) && isA(out, api.TInt)
	case api.OEq, api.OLess:
		return isA(t[0], api.TInt) && isA(t[1], api.TInt) && isA(out, api.TBool)
	case api.OIf:
		return isA(t[0], api.TBool)
	case api.OCase:
		return isA(t[0], api.TData) && outline.AreCases(s.Blocks, &b.Datas[t[0].N])
	}
	return true
}

// areParts tells whether types are the parts of a tuple, of which there are as many.
func areParts(t []*api.Type, parts []api.Type) bool {
	for i := range parts {
		if !outline.AreSame(t[i], &parts[i]) {
			return false
		}
	}
	return true
}

// bindsOf are the types of what the blocks of a step bind, a list for each; those of a handle are known only behind its first block.
func (b *body) bindsOf(s *api.Step, args []*api.Type) [][]*api.Type {
	out := make([][]*api.Type, len(s.Blocks))
	switch s.Op {
	case api.OFn:
		out[0] = []*api.Type{&s.Type.Args[0]}
	case api.OCase:
		in := outline.At(args[0])
		for i, con := range b.Datas[args[0].N].Cons {
			for j := range con.Fields {
				t := in.Written(&con.Fields[j])
				b.require(!outline.IsTooLarge(&t), api.ErrBig)
				out[i] = append(out[i], &t)
			}
		}
	}
	return out
}
