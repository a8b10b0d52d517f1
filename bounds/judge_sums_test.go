package bounds_test

import (
	"math/big"
	"slices"
	"strings"

	"heriot/api"
)

// sum is a polynomial: numbers by the names of the variables, sorted, each as often as it is chosen. Nothing is beyond its bounds; products are made by powers, with fractions.
type sum map[string]*big.Int

// powers is a polynomial as one writes it otherwise: by the names of the variables, sorted, each as often as it is a factor.
type powers map[string]*big.Rat

func constant(n int64) sum { return sum{"": big.NewInt(n)}.clean() }

func variable(name string) sum { return sum{name: big.NewInt(1)} }

func (a sum) clean() sum {
	for key, n := range a {
		if n.Sign() == 0 {
			delete(a, key)
		}
	}
	return a
}

func (a sum) plus(b sum) sum {
	out := sum{}
	for _, s := range []sum{a, b} {
		for key, n := range s {
			if out[key] == nil {
				out[key] = new(big.Int)
			}
			out[key] = new(big.Int).Add(out[key], n)
		}
	}
	return out.clean()
}

// most is the least polynomial that all are at most of.
func most(list ...sum) sum {
	out := sum{}
	for _, s := range list {
		for key, n := range s {
			if out[key] == nil || out[key].Cmp(n) < 0 {
				out[key] = n
			}
		}
	}
	return out
}

func (a sum) isAtMost(b sum) bool {
	for key, n := range a {
		if b[key] == nil || b[key].Cmp(n) < 0 {
			return false
		}
	}
	return true
}

// less is the polynomial with a constant part that is less, but not below 0.
func (a sum) less(n int64) sum {
	out := a.plus(nil)
	if c := out[""]; c != nil {
		c = new(big.Int).Sub(c, big.NewInt(n))
		if c.Sign() < 0 {
			c = new(big.Int)
		}
		out[""] = c
	}
	return out.clean()
}

// isBeyond tells whether a polynomial is beyond the bounds.
func (a sum) isBeyond() bool {
	limit := new(big.Int).Lsh(big.NewInt(1), 50)
	for key, n := range a {
		if len(strings.Fields(key)) > 3 || n.Cmp(limit) > 0 {
			return true
		}
	}
	return false
}

func (a sum) names() map[string]bool {
	out := map[string]bool{}
	for key := range a {
		for _, name := range strings.Fields(key) {
			out[name] = true
		}
	}
	return out
}

func sortedKey(names []string) string {
	names = slices.Clone(names)
	slices.Sort(names)
	return strings.Join(names, " ")
}

func (a powers) add(key string, n *big.Rat) {
	if a[key] == nil {
		a[key] = new(big.Rat)
	}
	a[key] = new(big.Rat).Add(a[key], n)
}

func (a powers) times(b powers) powers {
	out := powers{}
	for k1, n1 := range a {
		for k2, n2 := range b {
			out.add(sortedKey(append(strings.Fields(k1), strings.Fields(k2)...)), new(big.Rat).Mul(n1, n2))
		}
	}
	return out
}

// choose is a(a - 1) .. by k!.
func (a powers) choose(k int) powers {
	out := powers{"": big.NewRat(1, 1)}
	for i := range k {
		factor := powers{"": big.NewRat(int64(-i), 1)}
		for key, n := range a {
			factor.add(key, n)
		}
		out = out.times(factor)
		for key := range out {
			out[key].Quo(out[key], big.NewRat(int64(i+1), 1))
		}
	}
	return out
}

// counts are how often each name stands in a key.
func counts(key string) map[string]int {
	out := map[string]int{}
	for _, name := range strings.Fields(key) {
		out[name]++
	}
	return out
}

func (a sum) powers() powers {
	out := powers{}
	for key, n := range a {
		part := powers{"": new(big.Rat).SetInt(n)}
		for name, k := range counts(key) {
			part = part.times(powers{name: big.NewRat(1, 1)}.choose(k))
		}
		for key, n := range part {
			out.add(key, n)
		}
	}
	return out
}

// ways is in how many ways a list of e things can be put into j boxes, each of which gets one at least: x^e is the sum of these times the ways to choose j of x.
func ways(e, j int) int64 {
	if e == 0 && j == 0 {
		return 1
	}
	if e == 0 || j == 0 {
		return 0
	}
	return int64(j) * (ways(e-1, j) + ways(e-1, j-1))
}

func (a powers) sum() sum {
	out := map[string]*big.Rat{}
	for key, n := range a {
		parts := powers{"": n}
		for name, e := range counts(key) {
			more := powers{}
			for j := 1; j <= e; j++ {
				for key, n := range parts {
					names := append(strings.Fields(key), slices.Repeat([]string{name}, j)...)
					more.add(sortedKey(names), new(big.Rat).Mul(n, big.NewRat(ways(e, j), 1)))
				}
			}
			parts = more
		}
		for key, n := range parts {
			powers(out).add(key, n)
		}
	}
	whole := sum{}
	for key, n := range out {
		if !n.IsInt() {
			panic("no whole number: " + n.String())
		}
		whole[key] = n.Num()
	}
	return whole.clean()
}

// put puts polynomials for variables.
func (a sum) put(value func(name string) sum) sum {
	out := sum{}
	for key, n := range a {
		part := powers{"": new(big.Rat).SetInt(n)}
		for name, k := range counts(key) {
			part = part.times(value(name).powers().choose(k))
		}
		out = out.plus(part.sum())
	}
	return out
}

// back puts a sum of w and some variables back, for the variable u: the chapter's rule, word by word.
func (a sum) back(u string, w int64, parts map[string]bool) sum {
	greatest := map[string]map[int]*big.Int{}
	for key, n := range a {
		var others []string
		k := 0
		for _, name := range strings.Fields(key) {
			if parts[name] {
				k++
			} else {
				others = append(others, name)
			}
		}
		m := sortedKey(others)
		if greatest[m] == nil {
			greatest[m] = map[int]*big.Int{}
		}
		if greatest[m][k] == nil || greatest[m][k].Cmp(n) < 0 {
			greatest[m][k] = n
		}
	}
	out := sum{}
	for m, by := range greatest {
		own := map[int]*big.Int{}
		for k := 3; k >= 0; k-- {
			own[k] = new(big.Int)
			if by[k] != nil {
				own[k].Set(by[k])
			}
			for j := 1; j <= 3-k; j++ {
				choose := new(big.Int).Binomial(w, int64(j))
				own[k].Sub(own[k], choose.Mul(choose, own[k+j]))
			}
			if own[k].Sign() < 0 {
				own[k] = new(big.Int)
			}
			out[sortedKey(append(strings.Fields(m), slices.Repeat([]string{u}, k)...))] = own[k]
		}
	}
	return out.clean()
}

// sumOf reads a list of terms, and tells whether it is well-shaped.
func sumOf(list []api.Term, names []string) (sum, bool) {
	out := sum{}
	for _, t := range list {
		if len(t.Pows) != len(names) || t.Coef < 1 || t.Coef > 1<<50 {
			return nil, false
		}
		var key []string
		for i, k := range t.Pows {
			if k < 0 || k > 3 {
				return nil, false
			}
			key = append(key, slices.Repeat([]string{names[i]}, k)...)
		}
		if len(key) > 3 || out[sortedKey(key)] != nil {
			return nil, false
		}
		out[sortedKey(key)] = big.NewInt(t.Coef)
	}
	return out, true
}
