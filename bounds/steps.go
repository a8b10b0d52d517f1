package bounds

import (
	"heriot/api"
	"heriot/polynomial"
)

// block goes through a block. What is at the end of the function is held against the certificate there.
func (w *walk) block(b *api.Block, isAtEnd bool) {
	for i := range b.Steps {
		s := &b.Steps[i]
		if isAtEnd && i == len(b.Steps)-1 && s.Out == b.Value && isChoice(s.Op) {
			w.branches(s, true)
			return
		}
		w.step(s)
	}
	if isAtEnd {
		w.asksGrowth()
		w.asksResult(w.known(b.Value))
	}
}

// isChoice tells whether steps of an operation go through one of some blocks.
func isChoice(op int) bool { return op == api.OIf || op == api.OCase || op == api.OHandle }

func (w *walk) step(s *api.Step) {
	switch {
	case s.Op == api.ONew:
		w.held[s.Region] = amount{}
	case s.Op == api.OEnd:
		delete(w.held, s.Region)
	case isChoice(s.Op):
		w.set(s.Out, w.branches(s, false))
	default:
		w.set(s.Out, w.value(s))
	}
}

// value is what is known of the Out of a step, when all has been done that it does.
func (w *walk) value(s *api.Step) fact {
	switch s.Op {
	case api.OInt:
		return integer(s.Int)
	case api.OMake, api.OTuple:
		return w.constructed(s)
	case api.OGet:
		return w.part(s)
	case api.OCall:
		return w.call(s)
	case api.OFn:
		w.makes(s.Region, polynomial.Constant(w.closures[s]))
		f := empty()
		f.costs = w.lambda(s)
		return f
	case api.OApply:
		return w.apply(s)
	case api.ORef:
		w.makes(s.Region, polynomial.Constant(1))
	case api.ODeref, api.OAt:
		return unknown(&s.Type)
	case api.OArray:
		return w.array(s)
	case api.OLen:
		return w.length(s)
	case api.ORaise:
		return never(&s.Type)
	case api.OAdd, api.OSub, api.OMul, api.ODiv, api.OMod:
		return arithmetic(s.Op, w.known(s.Args[0]), w.known(s.Args[1]))
	case api.OLess:
		f := empty()
		f.test = s
		return f
	}
	return empty()
}

// constructed makes a constructor, or a tuple.
func (w *walk) constructed(s *api.Step) fact {
	if len(s.Args) == 0 {
		return empty()
	}
	words := int64(len(s.Args))
	if s.Op == api.OMake {
		words++
	}
	w.makes(s.Region, polynomial.Constant(words))
	sizes := []polynomial.Poly{polynomial.Constant(words)}
	for _, v := range s.Args {
		if !isCompound(w.types[v]) {
			continue
		}
		if !w.known(v).isBounded {
			return fact{}
		}
		sizes = append(sizes, w.known(v).bound)
	}
	return bounded(polynomial.Sum(sizes...))
}

// part is a part of a tuple.
func (w *walk) part(s *api.Step) fact {
	if tuple := w.known(s.Args[0]); isCompound(&s.Type) && tuple.isBounded {
		return bounded(tuple.bound)
	}
	return unknown(&s.Type)
}

// array makes an array, unless it is known to be none.
func (w *walk) array(s *api.Step) fact {
	count := w.known(s.Args[0])
	if count.isConstant && (count.constant < 0 || count.constant > api.MaxArray) {
		return empty()
	}
	elements := orMost(count)
	w.makes(s.Region, polynomial.Sum(polynomial.Constant(1), elements.bound))
	return elements
}

// orMost is a number of elements: as many as an array may have, where nothing is known.
func orMost(f fact) fact {
	if f.isBounded {
		return bounded(f.bound)
	}
	return bounded(polynomial.Constant(api.MaxArray))
}

func (w *walk) length(s *api.Step) fact {
	f := orMost(w.known(s.Args[0]))
	f.hasLeast, f.least = true, 0
	return f
}

// never is a value that is never there.
func never(t *api.Type) fact {
	f := empty()
	f.hasLeast, f.least = true, 0
	f.costs = make([]polynomial.Poly, levelsOf(t))
	return f
}

func arithmetic(op int, a, b fact) fact {
	switch op {
	case api.OAdd:
		if a.isBounded && b.isBounded && a.isNatural() && b.isNatural() {
			return bounded(polynomial.Sum(a.bound, b.bound))
		}
	case api.OSub:
		return difference(a, b)
	case api.OMul:
		return product(a, b)
	case api.ODiv:
		if b.isConstant && b.constant >= 1 {
			return fact{isBounded: a.isBounded, bound: a.bound, hasLeast: a.isNatural()}
		}
	case api.OMod:
		if b.isConstant && b.constant >= 1 {
			f := bounded(polynomial.Constant(b.constant - 1))
			f.hasLeast = a.isNatural()
			return f
		}
	}
	return fact{}
}

func difference(a, b fact) fact {
	c, ok := b.factor()
	if !ok || !a.isNatural() {
		return fact{}
	}
	return fact{isBounded: a.isBounded, bound: a.bound.Less(c), hasLeast: true, least: a.least - c}
}

func product(a, b fact) fact {
	for _, pair := range [][2]fact{{a, b}, {b, a}} {
		if c, ok := pair[0].factor(); ok && pair[1].isNatural() && pair[1].isBounded {
			return bounded(polynomial.Constant(c).Times(pair[1].bound))
		}
	}
	return fact{}
}
