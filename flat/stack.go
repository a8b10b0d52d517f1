package flat

// stack is a list of which the last element is always the next one to be taken away: variables that are in scope, blocks that are being run, frames.
type stack[T any] []T

func (s *stack[T]) push(x T) { *s = append(*s, x) }

func (s *stack[T]) pop() T {
	last := len(*s) - 1
	x := (*s)[last]
	*s = (*s)[:last]
	return x
}

func (s stack[T]) top() *T { return &s[len(s)-1] }
