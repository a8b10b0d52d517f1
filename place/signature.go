package place

import (
	"strconv"
	"strings"

	"heriot/api"
)

// signature is what callers know of a function that is done: its types as patterns, and the different effects in them, in their order.
type signature struct {
	*api.Fun
	params []*dressed
	result *dressed
	own    []api.Effect
}

// signatureOf looks at the head of a function alone.
func signatureOf(f *api.Fun) *signature {
	s := &signature{Fun: f}
	known := map[string]int{}
	region := func(t *api.Type) int { return t.Region }
	effect := func(t *api.Type) int {
		key := keyOf(&t.Effect)
		number, ok := known[key]
		if !ok {
			number = len(s.own)
			known[key] = number
			s.own = append(s.own, t.Effect)
		}
		return number
	}
	for i := range f.Params {
		s.params = append(s.params, pattern(&f.Params[i], region, effect))
	}
	s.result = pattern(&f.Result, region, effect)
	return s
}

// keyOf is a text that only the same effects have alike.
func keyOf(e *api.Effect) string {
	var text strings.Builder
	for _, r := range e.Regions {
		text.WriteString(strconv.Itoa(r) + " ")
	}
	text.WriteString("/")
	for _, v := range e.Vars {
		text.WriteString(strconv.Itoa(v) + " ")
	}
	return text.String()
}
