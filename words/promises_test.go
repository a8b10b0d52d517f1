package words_test

import (
	"math/rand"
	"reflect"
	"strings"
	"testing"

	"heriot/api"
	"heriot/words"
)

const rounds = 2000

func newMaker(seed int) *maker {
	return &maker{Rand: rand.New(rand.NewSource(int64(seed))), left: seed % 60}
}

// TestThereAndBack: P1.1.
func TestThereAndBack(t *testing.T) {
	for seed := range rounds {
		u := newMaker(seed).unit()
		text, places := spell(u)
		if e := words.Valid(u); e != api.OK {
			t.Fatalf("Valid: %d of %s", e, text)
		}
		printed, e := words.Print(u)
		if e != api.OK || printed != text {
			t.Fatalf("Print: %q, %d, not %q", printed, e, text)
		}
		got, r := words.Read(printed)
		if r != (api.Refusal{}) || !reflect.DeepEqual(tidy(got), places) {
			t.Fatalf("Read(%q): %+v, %+v, not %+v", printed, got, r, places)
		}
	}
}

// TestSpoiled: a tree is valid just if what reads its text gives it back.
func TestSpoiled(t *testing.T) {
	valid, not := 0, map[api.Errno]int{}
	for seed := range 2 * rounds {
		m := newMaker(seed)
		u := m.spoil(m.unit())
		text, _ := spell(u)
		before := tidy(u)
		printed, e := words.Print(u)
		if v := words.Valid(u); v != e {
			t.Fatalf("Valid: %d, Print: %d", v, e)
		}
		got, r := words.Read(text)
		same := r.E == api.OK && reflect.DeepEqual(withoutAt(got), withoutAt(u))
		if same != (e == api.OK) || e == api.OK && printed != text || e != api.OK && printed != "" {
			t.Fatalf("Print: %q, %d of %+v, which is written %q", printed, e, u, text)
		}
		if !reflect.DeepEqual(tidy(u), before) {
			t.Fatalf("Print changes its argument: %+v, not %+v", u, before)
		}
		if same {
			valid++
		} else {
			not[e]++
		}
	}
	if valid < rounds/10 || not[api.ErrForm] < rounds/10 || not[api.ErrName] < rounds/10 {
		t.Errorf("too few cases: %d, %v", valid, not)
	}
}

// blanks are what may stand between two words, and ahead of and behind parentheses.
var blanks = []string{" ", "\n", "\t", "\r", "  \r\n", ";\n", "; (x ) ; \"y\"\n", ";~", " ; unit\n\t"}

// lay writes words and parentheses with blanks by chance.
func lay(tokens []string, m *maker) string {
	var b strings.Builder
	for i, s := range tokens {
		alone := s == "(" || s == ")" || i == 0 || tokens[i-1] == "(" || tokens[i-1] == ")"
		if !alone || m.Intn(3) == 0 {
			b.WriteString(strings.Replace(blanks[m.Intn(len(blanks))], "~", "~\n", 1))
		}
		b.WriteString(s)
	}
	if m.Intn(3) == 0 {
		b.WriteString(blanks[m.Intn(len(blanks))])
	}
	return b.String()
}

// tokensOf are the words and parentheses of a text without comments.
func tokensOf(text string) []string {
	return strings.Fields(strings.NewReplacer("(", " ( ", ")", " ) ").Replace(text))
}

// mix changes the words and parentheses of a text by chance, often so that it is none any more.
func mix(tokens []string, m *maker) []string {
	out := append([]string{}, tokens...)
	at := m.Intn(len(out))
	switch m.Intn(4) {
	case 0:
		out = append(out[:at], out[at+1:]...)
	case 1:
		other := m.Intn(len(out))
		out[at], out[other] = out[other], out[at]
	default:
		word := m.one("( ) ( ) () 5 -7 007 01 -x 9x 99999999999999999999 - -> x X Div unit use fun funs data let case get handle raise int true (x) ((C)x) (x(y)int) tuple")
		if m.Intn(2) == 0 {
			out[at] = word
		} else {
			out = append(out[:at], append([]string{word}, out[at:]...)...)
		}
	}
	return tokensOf(strings.Join(out, " "))
}

// TestBlanks: P1.3, and P1 for texts that are none.
func TestBlanks(t *testing.T) {
	errs := map[api.Errno]int{}
	for seed := range 2 * rounds {
		m := newMaker(seed)
		text, _ := spell(m.unit())
		tokens := tokensOf(text)
		for range m.Intn(3) {
			if len(tokens) > 0 {
				tokens = mix(tokens, m)
			}
		}
		first, second := lay(tokens, m), lay(tokens, m)
		u, r := words.Read(first)
		v, s := words.Read(second)
		if r.E != s.E || !reflect.DeepEqual(withoutAt(u), withoutAt(v)) {
			t.Fatalf("%q: %+v, %+v; %q: %+v, %+v", first, u, r, second, v, s)
		}
		if r.Unit != 0 || r.At < 0 || r.At > len(first) || r.E == api.OK && r.At != 0 || r.E != api.OK && !reflect.DeepEqual(u, api.Unit{}) {
			t.Fatalf("Read(%q): %+v, %+v", first, u, r)
		}
		errs[r.E]++
	}
	for _, e := range []api.Errno{api.OK, api.ErrClose, api.ErrNumber, api.ErrName, api.ErrForm} {
		if errs[e] < rounds/250 {
			t.Errorf("too few cases of %d: %v", e, errs)
		}
	}
}

// TestBackAndThere: P1.2.
func TestBackAndThere(t *testing.T) {
	for seed := range rounds {
		m := newMaker(seed)
		text, _ := spell(m.unit())
		tokens := tokensOf(text)
		if seed%2 == 0 {
			tokens = mix(tokens, m)
		}
		u, r := words.Read(lay(tokens, m))
		if r.E != api.OK {
			continue
		}
		checkBack(t, u)
	}
}

func checkBack(t *testing.T, u api.Unit) {
	t.Helper()
	if e := words.Valid(u); e != api.OK {
		t.Fatalf("Valid: %d of what was read: %+v", e, u)
	}
	text, e := words.Print(u)
	again, r := words.Read(text)
	if e != api.OK || r != (api.Refusal{}) || !reflect.DeepEqual(withoutAt(again), withoutAt(u)) {
		t.Fatalf("Print: %q, %d; Read: %+v, not %+v", text, e, again, u)
	}
	if twice, e := words.Print(again); twice != text || e != api.OK {
		t.Fatalf("Print of the same again: %q, %d, not %q", twice, e, text)
	}
}

// TestTight: texts whose printed texts have a space more for each form: as long as a text may be, and longer.
func TestTight(t *testing.T) {
	const form = "(exception e)"
	n := (api.MaxText - len("(unit m)")) / (len(form) + 1)
	rest := api.MaxText - len("(unit m)") - n*(len(form)+1)
	name := "e" + strings.Repeat("x", rest)
	text := "(unit m" + strings.Repeat(form, n-1) + "(exception " + name + "))"
	u, r := words.Read(text)
	if r != (api.Refusal{}) || len(u.Decls) != n {
		t.Fatalf("a text of %d bytes: %+v", len(text), r)
	}
	checkBack(t, u)
	for _, longer := range []string{
		strings.Replace(text, name, name+"x", 1),
		"(unit m" + strings.Repeat(form, (api.MaxText-len("(unit m)"))/len(form)) + ")",
	} {
		u, r = words.Read(longer)
		if r != (api.Refusal{}) {
			t.Fatalf("a text of %d bytes: %+v", len(longer), r)
		}
		checkErrno(t, u, api.ErrBig)
	}
}
