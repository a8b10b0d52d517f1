// Package groups finds which things lead to each other: functions that call each other, perhaps over others.
package groups

import (
	"cmp"
	"slices"

	"heriot/stack"
)

// finder finds groups. It goes through what things lead to, in depth.
type finder[N comparable] struct {
	next   func(N) []N
	found  map[N]int   // when a thing was found, from 1 on
	done   map[N]int   // when all was done that it leads to, from 1 on
	open   stack.Of[N] // what is found and belongs to no group yet
	isOpen map[N]bool
	groups [][]N
}

// Of are the groups of some things and of all that they lead to: two are of one group if each leads to the other one, perhaps over others. Each group stands behind those that it leads to. In a group, and among the last ones of all groups, a thing stands behind those that were done ahead of it: a thing is done when all is that it leads to and that is not on its way.
func Of[N comparable](starts []N, next func(N) []N) [][]N {
	f := &finder[N]{next, map[N]int{}, map[N]int{}, nil, map[N]bool{}, nil}
	for _, n := range starts {
		if f.found[n] == 0 {
			f.visit(n)
		}
	}
	return f.groups
}

// visit finds what a thing leads to, and gives when the first of those was found that it comes back to.
func (f *finder[N]) visit(n N) int {
	own := len(f.found) + 1
	first := own
	f.found[n] = own
	f.open.Push(n)
	f.isOpen[n] = true
	for _, to := range f.next(n) {
		if f.found[to] == 0 {
			first = min(first, f.visit(to))
		} else if f.isOpen[to] {
			first = min(first, f.found[to])
		}
	}
	last := len(f.done) + 1
	f.done[n] = last
	if first == own {
		f.close(n)
	}
	return first
}

// close makes a group of all that was found from a thing on.
func (f *finder[N]) close(n N) {
	var members []N
	for len(members) == 0 || members[len(members)-1] != n {
		m := f.open.Pop()
		delete(f.isOpen, m)
		members = append(members, m)
	}
	slices.SortFunc(members, func(a, b N) int { return cmp.Compare(f.done[a], f.done[b]) })
	f.groups = append(f.groups, members)
}
