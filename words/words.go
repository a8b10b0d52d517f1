// Package words is layer 1: see shared/doc/01-words.md.
package words

import "heriot/api"

// Read reads the text of a unit.
func Read(text string) (unit api.Unit, refusal api.Refusal) {
	defer func() {
		switch p := recover().(type) {
		case nil:
		case api.Refusal:
			refusal = p
		default:
			// Nothing in this package panics with anything else; if it did, the text could not be trusted to be a unit.
			refusal = api.Refusal{E: api.ErrForm}
		}
	}()
	return readUnit(readForm(text)), api.Refusal{}
}

// Print writes a unit's text.
func Print(u api.Unit) (string, api.Errno) {
	var w writer
	w.unit(u)
	w.require(w.size <= api.MaxText, api.ErrBig)
	if w.err != api.OK {
		return "", w.err
	}
	return w.text.String(), api.OK
}

// Valid reports whether a tree is one that a text has.
func Valid(u api.Unit) api.Errno {
	// A tree is valid if its text can be written: writing goes through it in the order in which its errors are looked for.
	_, e := Print(u)
	return e
}
