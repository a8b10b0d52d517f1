// Package stack has a list that grows and shrinks at its end. The layers share it.
package stack

// Of is a list of which the last element is always the next one to be taken away: variables that are in scope, blocks that are being run, frames.
type Of[T any] []T

// Push adds an element.
func (s *Of[T]) Push(x T) { *s = append(*s, x) }

// Pop takes the last element away.
func (s *Of[T]) Pop() T {
	last := len(*s) - 1
	x := (*s)[last]
	*s = (*s)[:last]
	return x
}

// Top is the last element, where it stands.
func (s Of[T]) Top() *T { return &s[len(s)-1] }
