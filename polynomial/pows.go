package polynomial

import (
	"iter"
	"slices"
)

// Pows say how many are chosen of which variables: each variable stands there as often as it is chosen, by its number and 1 more, so that 0 is none. They do not fall.
type Pows [MaxDegree]int

// powsOf are the Pows that a list of a number for each variable says, if there are any.
func powsOf(list []int) (Pows, bool) {
	var out Pows
	left := MaxDegree
	for v, k := range list {
		if k < 0 || k > left {
			return Pows{}, false
		}
		left -= k
		for range k {
			out = out.and(v)
		}
	}
	return out, true
}

// and are the Pows with one more of a variable. There has to be room.
func (of Pows) and(v int) Pows {
	of[0] = v + 1
	slices.Sort(of[:])
	return of
}

func (of Pows) degree() int {
	count := 0
	for _, v := range of {
		if v > 0 {
			count++
		}
	}
	return count
}

// last is the greatest of the variables. There has to be one.
func (of Pows) last() int { return of[MaxDegree-1] - 1 }

// times is how many of a variable are chosen.
func (of Pows) times(v int) int {
	count := 0
	for _, other := range of {
		if other == v+1 {
			count++
		}
	}
	return count
}

// Powers goes through the variables, each once, and how many of it are chosen.
func (of Pows) Powers() iter.Seq2[int, int] {
	return func(yield func(int, int) bool) {
		for i, v := range of {
			if v > 0 && (i == 0 || of[i-1] != v) && !yield(v-1, of.times(v-1)) {
				return
			}
		}
	}
}

// With are the Pows with one more of a variable, if the degree allows it.
func (of Pows) With(v int) (Pows, bool) {
	if of.degree() == MaxDegree {
		return Pows{}, false
	}
	return of.and(v), true
}

// Renamed are the Pows in which each variable counts for another one.
func (of Pows) Renamed(name func(v int) int) Pows {
	for i, v := range of {
		if v > 0 {
			of[i] = name(v-1) + 1
		}
	}
	slices.Sort(of[:])
	return of
}
