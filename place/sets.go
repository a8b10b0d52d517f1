package place

import (
	"iter"
	"math/bits"
)

// set is a set of numbers from 0 on, a bit for each.
type set []uint64

const word = 64

func setOf(list ...int) set {
	var s set
	for _, n := range list {
		s.add(n)
	}
	return s
}

func (s set) has(n int) bool { return n/word < len(s) && s[n/word]>>(n%word)&1 == 1 }

// add tells whether the number is a new one.
func (s *set) add(n int) bool {
	if s.has(n) {
		return false
	}
	for len(*s) <= n/word {
		*s = append(*s, 0)
	}
	(*s)[n/word] |= 1 << (n % word)
	return true
}

func (s set) drop(n int) {
	if s.has(n) {
		s[n/word] &^= 1 << (n % word)
	}
}

// addAll tells whether there are new numbers.
func (s *set) addAll(other set) bool {
	for len(*s) < len(other) {
		*s = append(*s, 0)
	}
	isNew := false
	for i, w := range other {
		isNew = isNew || w&^(*s)[i] != 0
		(*s)[i] |= w
	}
	return isNew
}

// without is what a set has that another one has not.
func (s set) without(other set) set {
	out := make(set, len(s))
	for i, w := range s {
		if i < len(other) {
			w &^= other[i]
		}
		out[i] = w
	}
	return out
}

// all goes through the numbers, which rise.
func (s set) all() iter.Seq[int] {
	return func(yield func(int) bool) {
		for i, w := range s {
			for ; w != 0; w &= w - 1 {
				if !yield(i*word + bits.TrailingZeros64(w)) {
					return
				}
			}
		}
	}
}

func (s set) isEmpty() bool {
	for _, w := range s {
		if w != 0 {
			return false
		}
	}
	return true
}
