package polynomial

// Split is how a variable is put as a sum: a number, and new variables, which follow each other.
type Split struct {
	Variable int
	Number   int64
	First    int
	Count    int
}

// sum is what is put for the variable.
func (s Split) sum() Poly {
	parts := []Poly{Constant(s.Number)}
	for i := range s.Count {
		parts = append(parts, Variable(s.First+i))
	}
	return Sum(parts...)
}

func (s Split) isPart(v int) bool { return v >= s.First && v < s.First+s.Count }

// Split is the polynomial in which a variable is put as a sum.
func (p Poly) Split(s Split) Poly {
	if !p.Mentions(func(v int) bool { return v == s.Variable }) {
		return p
	}
	return p.Put(func(v int) Poly {
		if v == s.Variable {
			return s.sum()
		}
		return Variable(v)
	})
}

// Unsplit puts a sum back: the least polynomial in the variable that was put of which the polynomial is at most when the variable is put again.
func (p Poly) Unsplit(s Split) Poly {
	if !p.Mentions(s.isPart) {
		return p
	}
	found := map[Pows]*[MaxDegree + 1]int64{}
	for _, t := range p.terms {
		others, parts := t.of.without(s)
		if found[others] == nil {
			found[others] = &[MaxDegree + 1]int64{}
		}
		found[others][parts] = max(found[others][parts], t.coef)
	}
	var terms []term
	for others, most := range found {
		terms = append(terms, s.least(others, *most)...)
	}
	return gathered(terms, both)
}

// without are the Pows of the other variables, and how many are chosen of the sum's.
func (of Pows) without(s Split) (Pows, int) {
	var others Pows
	parts := 0
	for _, v := range of {
		switch {
		case v == 0:
		case s.isPart(v - 1):
			parts++
		default:
			others = others.and(v - 1)
		}
	}
	return others, parts
}

// least are the terms with the Pows of some other variables, if the sum's variables have at most so much there, by how many of them are chosen.
func (s Split) least(others Pows, most [MaxDegree + 1]int64) []term {
	var out []term
	own := most
	for k := MaxDegree - others.degree(); k >= 0; k-- {
		there := int64(0)
		for j := 1; k+j <= MaxDegree; j++ {
			there = plus(there, times(choose(s.Number, j), own[k+j]))
		}
		own[k] = max(most[k]-there, 0)
		if own[k] > 0 {
			of := others
			for range k {
				of = of.and(s.Variable)
			}
			out = append(out, term{of, own[k]})
		}
	}
	return out
}
