package groups_test

import (
	"math/rand"
	"slices"
	"testing"

	"heriot/groups"
)

// reached is what a thing leads to, perhaps over others.
func reached(next [][]int, from int) map[int]bool {
	out := map[int]bool{}
	var look func(n int)
	look = func(n int) {
		for _, to := range next[n] {
			if !out[to] {
				out[to] = true
				look(to)
			}
		}
	}
	look(from)
	return out
}

// doneIn is the order in which things are done.
func doneIn(next [][]int, starts []int) []int {
	var out []int
	seen := map[int]bool{}
	var visit func(n int)
	visit = func(n int) {
		if seen[n] {
			return
		}
		seen[n] = true
		for _, to := range next[n] {
			visit(to)
		}
		out = append(out, n)
	}
	for _, n := range starts {
		visit(n)
	}
	return out
}

func TestGroups(t *testing.T) {
	for seed := range 3000 {
		some := rand.New(rand.NewSource(int64(seed)))
		next := make([][]int, 1+some.Intn(8))
		for range some.Intn(16) {
			from := some.Intn(len(next))
			next[from] = append(next[from], some.Intn(len(next)))
		}
		var starts []int
		for n := range next {
			if some.Intn(3) == 0 {
				starts = append(starts, n)
			}
		}
		order := doneIn(next, starts)
		var want [][]int
		for i, n := range order {
			group := slices.DeleteFunc(slices.Clone(order), func(other int) bool {
				return other != n && !(reached(next, n)[other] && reached(next, other)[n])
			})
			if !slices.ContainsFunc(order[i+1:], func(later int) bool { return slices.Contains(group, later) }) {
				want = append(want, group)
			}
		}
		got := groups.Of(starts, func(n int) []int { return next[n] })
		if !slices.EqualFunc(got, want, slices.Equal[[]int]) {
			t.Fatalf("%v from %v: %v, not %v", next, starts, got, want)
		}
	}
	if got := groups.Of(nil, func(string) []string { return nil }); len(got) > 0 {
		t.Errorf("groups of nothing: %v", got)
	}
}
