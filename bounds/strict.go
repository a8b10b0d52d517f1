package bounds

import "heriot/polynomial"

// strict is a judge that ends a walk where its certificate does not hold.
type strict struct{}

func (strict) keepsTo(w *walk, p polynomial.Poly, what claim) {
	require(p.IsAtMost(*w.claims.at(what)))
}

func (strict) lacksSize() { require(false) }

func (strict) lacksCosts(int) { require(false) }

// holds tells whether a certificate holds, if those of the callees do.
func (w *program) holds(c *certificate, of func(fun int, mine []int) *certificate) bool {
	return w.newWalk(c, strict{}, of).run()
}

func (w *program) allHold(known *certificates) bool {
	for _, c := range known.list {
		if !w.holds(c, known.of) {
			return false
		}
	}
	return true
}
