package polynomial

import (
	"math"
	"math/bits"
)

// Numbers that are not below 0 are added and multiplied up to math.MaxInt64, which stands for all that are greater.

func plus(a, b int64) int64 {
	if a > math.MaxInt64-b {
		return math.MaxInt64
	}
	return a + b
}

func times(a, b int64) int64 {
	return quotient(a, b, 1)
}

// quotient is a times b divided by c, without what remains.
func quotient(a, b, c int64) int64 {
	high, low := bits.Mul64(uint64(a), uint64(b))
	if high >= uint64(c) {
		return math.MaxInt64
	}
	out, _ := bits.Div64(high, low, uint64(c))
	return int64(min(out, math.MaxInt64))
}

// choose is how many ways there are to choose some of a number.
func choose(of int64, some int) int64 {
	out := int64(1)
	for i := range int64(some) {
		out = quotient(out, max(of-i, 0), i+1)
	}
	return out
}
