package bounds_test

import (
	"fmt"
	"slices"
	"strconv"
	"strings"
	"testing"

	"heriot/api"
	"heriot/bounds"
	"heriot/flat"
	"heriot/place"
	"heriot/samples"
	"heriot/steps"
	"heriot/types"
	"heriot/words"
)

// library is what the region programs of these tests have ahead of their functions.
const library = `data list 1 = Nil | Cons v0 (d0 v0 @0 {e0}); data tree 0 = Leaf | Node (d1 @0 {e0}) int (d1 @0 {e0}); data doer 0 = Do (-> int int @0 {e0}) | Wait int; data box 1 = Box v0; exn no; `

// program reads a region program, which the checker has to take.
func program(t *testing.T, text string) api.Program {
	t.Helper()
	p := readProgram(library + text)
	if e, at := steps.Check(p); e != api.OK {
		t.Fatalf("Check: %d %v: %s", e, at, text)
	}
	return p
}

// readProgram reads a region program.
func readProgram(text string) api.Program { return samples.Program(text) }

// placed is the region program of some units, if their types are found and it is not too big.
func placed(t *testing.T, texts ...string) (api.Program, bool) {
	t.Helper()
	var units []api.Unit
	for _, text := range texts {
		u, r := words.Read(text)
		if r.E != api.OK {
			t.Fatalf("%+v: %s", r, text)
		}
		units = append(units, u)
	}
	typed, r := types.Infer(units)
	if r.E != api.OK {
		return api.Program{}, false
	}
	p, e := flat.Flatten(typed)
	if e != api.OK {
		return api.Program{}, false
	}
	q, e := place.Place(p)
	return q, e == api.OK
}

// termsOf reads a polynomial in so many variables: terms like 3 (a number alone), 2*0 (twice the variable 0) or 4*0.0.1 (4 times the ways to choose two of 0 and one of 1); or plenty, which is very much of all.
func termsOf(text string, variables int) []api.Term {
	var out []api.Term
	if text == "plenty" {
		text = plenty(variables, 1<<35)
	}
	for _, word := range strings.Fields(text) {
		number, chosen, _ := strings.Cut(word, "*")
		coef, err := strconv.ParseInt(number, 10, 64)
		if err != nil {
			panic(err)
		}
		t := api.Term{Coef: coef, Pows: make([]int, variables)}
		for _, v := range strings.FieldsFunc(chosen, func(r rune) bool { return r == '.' }) {
			n, _ := strconv.Atoi(v)
			t.Pows[n]++
		}
		out = append(out, t)
	}
	return out
}

// plenty is a polynomial with all terms in which at most two of so many variables are chosen, each with a number.
func plenty(variables int, coef int64) string {
	text := fmt.Sprint(coef)
	for v := range variables {
		text += fmt.Sprintf(" %d*%d", coef, v)
		for u := range v + 1 {
			text += fmt.Sprintf(" %d*%d.%d", coef, u, v)
		}
	}
	return text
}

// certsOf reads certificates, one a line: a function's name and the regions that are its own, and then, behind semicolons, peak, growth, behind, size and calls with a polynomial each; growth, behind and calls may stand several times. Without size it is not known.
func certsOf(p api.Program, text string) []api.Cert {
	var out []api.Cert
	for _, line := range strings.Split(text, "\n") {
		if strings.TrimSpace(line) == "" {
			continue
		}
		parts := strings.Split(line, ";")
		head := strings.Fields(parts[0])
		c := api.Cert{Fun: slices.IndexFunc(p.Funs, func(f api.Fun) bool { return f.Name == head[0] })}
		for _, r := range head[1:] {
			n, _ := strconv.Atoi(r)
			c.Mine = append(c.Mine, n)
		}
		for _, part := range parts[1:] {
			word, rest, _ := strings.Cut(strings.TrimSpace(part), " ")
			terms := termsOf(rest, len(namesOf(p, c)))
			switch word {
			case "peak":
				c.Peak = terms
			case "growth":
				c.Growth = append(c.Growth, terms)
			case "behind":
				c.Behind = append(c.Behind, terms)
			case "size":
				c.Known, c.Size = true, terms
			case "calls":
				c.Calls = append(c.Calls, terms)
			}
		}
		out = append(out, c)
	}
	return out
}

// verifiedIs looks at what Verify says of certificates, and what the judge says.
func verifiedIs(t *testing.T, p api.Program, certs []api.Cert, want api.Errno) {
	t.Helper()
	if got := bounds.Verify(p, certs); got != want {
		t.Errorf("Verify: %d, not %d: %s", got, want, shown(p, certs))
	}
	if got := judged(p, certs, nil); got != want {
		t.Errorf("the judge: %d, not %d: %s", got, want, shown(p, certs))
	}
}

// shown is a text of a program with certificates.
func shown(p api.Program, certs []api.Cert) string {
	text := samples.Write(p)
	if len(text) > 4000 {
		text = text[:4000] + ".."
	}
	for _, c := range certs {
		text += fmt.Sprintf("\n%+v", c)
	}
	return text
}

// made is a region program by chance.
type made struct {
	name string
	api.Program
}

// sample makes a region program, a new one each time; or none.
func sample(t *testing.T, seed int) (made, bool) {
	t.Helper()
	number, ok := seed/5, true
	m := made{name: fmt.Sprint("sample ", seed)}
	switch seed % 5 {
	case 0:
		m.Program = samples.Regions(number)
	case 1:
		m.Program = samples.Mutual(number)
	case 2:
		p, e := place.Place(samples.Flat(number))
		m.Program, ok = p, e == api.OK
	case 3:
		m.Program, ok = placed(t, samples.Texts(number)...)
	case 4:
		m.Program, ok = placed(t, samples.Recursive(number)...)
	}
	return m, ok
}
