package words

import (
	"strings"

	"heriot/api"
)

// part is a part of a form: a word, or a form with its parts (its word is empty then).
type part struct {
	at    int
	word  string
	parts []part
}

// token is a parenthesis or a word of a text.
type token struct {
	at   int
	text string
}

func (p part) isForm() bool { return p.word == "" }

// refuse ends the reading of a text.
func refuse(e api.Errno, at int) {
	panic(api.Refusal{E: e, At: at})
}

// require refuses a text in which something does not hold.
func require(ok bool, e api.Errno, at int) {
	if !ok {
		refuse(e, at)
	}
}

// readForm finds the one form that a text is, without looking at what its words say.
func readForm(text string) part {
	require(len(text) <= api.MaxText, api.ErrBig, 0)
	checkBytes(text)
	var open []part // the forms that are open, the innermost one last
	var whole []part
	for _, t := range split(text) {
		depth := len(open)
		if t.text == "(" {
			require(len(whole) == 0, api.ErrClose, t.at)
			require(depth < api.MaxDepth, api.ErrDeep, t.at)
			open = append(open, part{at: t.at})
			continue
		}
		require(depth > 0, api.ErrClose, t.at)
		done := part{at: t.at, word: t.text}
		if t.text == ")" {
			done = open[depth-1]
			open = open[:depth-1]
		}
		if len(open) == 0 {
			whole = append(whole, done)
			continue
		}
		around := &open[len(open)-1]
		around.parts = append(around.parts, done)
	}
	require(len(open) == 0 && len(whole) == 1, api.ErrClose, len(text))
	return whole[0]
}

// checkBytes refuses the first byte that no text has. A byte above 127 begins a rune that is above it too, or is none and counts as U+FFFD.
func checkBytes(text string) {
	for at, r := range text {
		require(isBlank(r) || r > ' ' && r <= '~', api.ErrChar, at)
	}
}

func isBlank(r rune) bool {
	return r == ' ' || r == '\t' || r == '\n' || r == '\r'
}

// split finds the parentheses and words of a text.
func split(text string) []token {
	var tokens []token
	begin, comment := -1, false      // where the word that is being read begins, if there is one
	for at, r := range text + "\n" { // the line feed ends a last word
		alone := r == '(' || r == ')'
		spelling := !comment && !alone && r != ';' && !isBlank(r)
		if begin >= 0 && !spelling {
			// A copy, since the tree of a unit shares no memory with its text.
			tokens = append(tokens, token{begin, strings.Clone(text[begin:at])})
			begin = -1
		}
		switch {
		case comment:
			comment = r != '\n'
		case r == ';':
			comment = true
		case alone:
			tokens = append(tokens, token{at, string(r)})
		case spelling && begin < 0:
			begin = at
		}
	}
	return tokens
}
