package bounds

import (
	"slices"
	"strconv"

	"heriot/api"
	"heriot/polynomial"
)

// claims are what a certificate says: polynomials in its variables, or, in a walk, in those of the path.
type claims struct {
	peak    polynomial.Poly
	growth  []polynomial.Poly // of the regions of Touch that are not its own
	behind  []polynomial.Poly // of the effect variables of Touch
	isKnown bool
	size    polynomial.Poly
	calls   []polynomial.Poly
}

// Kinds of polynomials of a certificate.
const (
	ofPeak = iota
	ofGrowth
	ofBehind
	ofSize
	ofCalls
)

// claim names a polynomial of a certificate: its kind, and its number among those of this kind.
type claim struct{ kind, number int }

func (c *claims) at(what claim) *polynomial.Poly {
	switch what.kind {
	case ofPeak:
		return &c.peak
	case ofGrowth:
		return &c.growth[what.number]
	case ofBehind:
		return &c.behind[what.number]
	case ofSize:
		return &c.size
	}
	return &c.calls[what.number]
}

// changed are the claims with something done to each polynomial.
func (c *claims) changed(change func(polynomial.Poly) polynomial.Poly) claims {
	return claims{change(c.peak), allChanged(c.growth, change), allChanged(c.behind, change), c.isKnown, change(c.size), allChanged(c.calls, change)}
}

func allChanged(list []polynomial.Poly, change func(polynomial.Poly) polynomial.Poly) []polynomial.Poly {
	out := make([]polynomial.Poly, len(list))
	for i, p := range list {
		out[i] = change(p)
	}
	return out
}

// subject is what a certificate is for: a function, and which of the regions that it may touch it owns, rising.
type subject struct {
	fun  int
	mine []int
}

// key is the same for the same subjects alone.
func (s subject) key() string {
	out := strconv.AppendInt(nil, int64(s.fun), 10)
	for _, r := range s.mine {
		out = strconv.AppendInt(append(out, ' '), int64(r), 10)
	}
	return string(out)
}

type certificate struct {
	subject
	claims
}

// certificates are certificates that have the right shape.
type certificates struct {
	list  []*certificate
	byKey map[string]*certificate
}

// of is the certificate of a function for some regions of its own, if there is one.
func (c *certificates) of(fun int, mine []int) *certificate {
	return c.byKey[subject{fun, mine}.key()]
}

// shaped reads certificates, and tells whether all have the right shape, and no two are for the same.
func (w *program) shaped(certs []api.Cert) (*certificates, bool) {
	out := &certificates{byKey: map[string]*certificate{}}
	for i := range certs {
		c, ok := w.oneShaped(&certs[i])
		if !ok || out.byKey[c.key()] != nil {
			return nil, false
		}
		out.list = append(out.list, c)
		out.byKey[c.key()] = c
	}
	return out, true
}

func (w *program) oneShaped(c *api.Cert) (*certificate, bool) {
	if c.Fun < 0 || c.Fun >= len(w.Funs) || !isPartOf(c.Mine, w.Funs[c.Fun].Touch.Regions) {
		return nil, false
	}
	f := &w.Funs[c.Fun]
	own := subject{c.Fun, slices.Clone(c.Mine)}
	if len(c.Growth) != len(f.Touch.Regions)-len(c.Mine) || len(c.Behind) != len(f.Touch.Vars) {
		return nil, false
	}
	if len(c.Calls) > levelsOf(&f.Result) || !c.Known && len(c.Size) > 0 {
		return nil, false
	}
	r := termReader{w.variablesOf(own), true}
	out := &certificate{own, claims{r.read(c.Peak), r.readAll(c.Growth), r.readAll(c.Behind), c.Known, r.read(c.Size), r.readAll(c.Calls)}}
	return out, r.ok
}

// isPartOf tells whether a list rises, and has nothing that another one, which rises, has not.
func isPartOf(list, of []int) bool {
	for i, n := range list {
		if _, ok := slices.BinarySearch(of, n); !ok || i > 0 && n <= list[i-1] {
			return false
		}
	}
	return true
}

// termReader reads polynomials in so many variables, as long as they are well-shaped.
type termReader struct {
	variables int
	ok        bool
}

func (r *termReader) read(list []api.Term) polynomial.Poly {
	p, ok := polynomial.Of(list, r.variables)
	r.ok = r.ok && ok
	return p
}

func (r *termReader) readAll(lists [][]api.Term) []polynomial.Poly {
	var out []polynomial.Poly
	for _, list := range lists {
		out = append(out, r.read(list))
	}
	return out
}

// written is a certificate as plain data.
func (w *program) written(c *certificate) api.Cert {
	n := w.variablesOf(c.subject)
	all := func(list []polynomial.Poly) [][]api.Term {
		var out [][]api.Term
		for _, p := range list {
			out = append(out, p.Terms(n))
		}
		return out
	}
	return api.Cert{Fun: c.fun, Mine: slices.Clone(c.mine), Peak: c.peak.Terms(n), Growth: all(c.growth), Known: c.isKnown, Size: c.size.Terms(n), Behind: all(c.behind), Calls: all(c.calls)}
}
