package polynomial

// most is how many terms a polynomial may have. One that needs more is taken as one that is beyond the bounds: it would not only take long, there is no room for it.
const most = 1 << 22

// degree is how many are chosen at most in one term.
func (p Poly) degree() int {
	out := 0
	for _, t := range p.terms {
		out = max(out, t.of.degree())
	}
	return out
}

// Times is the product of two polynomials.
func (p Poly) Times(q Poly) Poly {
	if p.isZero() || q.isZero() {
		return Poly{}
	}
	if p.isBeyond || q.isBeyond || p.degree()+q.degree() > MaxDegree || len(p.terms)*len(q.terms) > most {
		return Poly{isBeyond: true}
	}
	if p.degree() > 1 {
		p, q = q, p
	}
	var terms []term
	for _, a := range p.terms {
		for _, b := range q.terms {
			terms = append(terms, a.times(b)...)
		}
	}
	return gathered(terms, both)
}

// times is the product of two terms, of which the first one has a degree of 1 at most: x times the ways to choose k of x is k of them again, and k + 1 for each way to choose k + 1.
func (t term) times(u term) []term {
	coef := times(t.coef, u.coef)
	if t.of == (Pows{}) {
		return []term{{u.of, coef}}
	}
	x := t.of.last()
	k := int64(u.of.times(x))
	out := []term{{u.of.and(x), times(coef, k+1)}}
	if k > 0 {
		out = append(out, term{u.of, times(coef, k)})
	}
	return out
}

// choose is the polynomial of how many ways there are to choose some of what a polynomial is.
func (p Poly) choose(some int) Poly {
	switch {
	case some == 1 || p.isZero() || p.isBeyond:
		return p
	case some*p.degree() > MaxDegree || choose(int64(len(p.terms)+some), some) > most:
		return Poly{isBeyond: true}
	}
	return gathered(p.choices(0, some, term{coef: 1}, nil), both)
}

// choices adds to a list the ways to choose some of the terms from one on, which have other variables each, with what has been chosen ahead.
func (p Poly) choices(from, some int, ahead term, out []term) []term {
	if some == 0 {
		return append(out, ahead)
	}
	for i := from; i < len(p.terms); i++ {
		for k := 1; k <= some; k++ {
			for _, part := range p.terms[i].choose(k) {
				out = p.choices(i+1, some-k, ahead.with(part), out)
			}
		}
	}
	return out
}

// with is the product of terms of which no variable stands in both.
func (t term) with(u term) term {
	t.coef = times(t.coef, u.coef)
	for v, k := range u.of.Powers() {
		for range k {
			t.of = t.of.and(v)
		}
	}
	return t
}

// choose is the polynomial of how many ways there are to choose some of a term of a degree of 1 at most: of c times x one chooses from as many of the c parts, or from fewer.
func (t term) choose(some int) []term {
	c := t.coef
	fewest := term{t.of, choose(c, some)}
	if t.of == (Pows{}) || some == 1 {
		return withoutZeros(fewest)
	}
	two := t.of.and(t.of.last())
	if some == 2 {
		return withoutZeros(fewest, term{two, times(c, c)})
	}
	three := two.and(two.last())
	return withoutZeros(fewest, term{two, times(times(c, c), c-1)}, term{three, times(times(c, c), c)})
}

func withoutZeros(terms ...term) []term {
	var out []term
	for _, t := range terms {
		if t.coef > 0 {
			out = append(out, t)
		}
	}
	return out
}

// Put is the polynomial in which other polynomials are put for its variables.
func (p Poly) Put(value func(v int) Poly) Poly {
	var parts []Poly
	count := 0
	for _, t := range p.terms {
		part := Constant(t.coef)
		for v, k := range t.of.Powers() {
			part = part.Times(value(v).choose(k))
		}
		parts = append(parts, part)
		count += len(part.terms)
		if count > most {
			return Poly{isBeyond: true}
		}
	}
	return Sum(parts...)
}
