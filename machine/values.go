package machine

import "heriot/code"

// Kinds of what a register has.
const (
	nothing = iota
	number
	reference
)

// value is what a register has: nothing, an int, or a cell, of which the number says where to find it.
type value struct {
	kind   int
	number int64
}

func intOf(n int64) value { return value{number, n} }

func truth(is bool) value {
	if is {
		return intOf(1)
	}
	return intOf(0)
}

// cellBits are the low bits of a reference, which are the number of a cell in its instance; the others are the instance's.
const cellBits = 32

func referenceTo(instance, cell int) value {
	return value{reference, int64(instance)<<cellBits | int64(cell)}
}

// instance is that of the cell of a reference.
func (v value) instance() int { return int(v.number >> cellBits) }

// cell is the number of the cell of a reference in its instance.
func (v value) cell() int { return int(v.number & (1<<cellBits - 1)) }

// Kinds of cells.
const (
	made    = iota // by a constructor, whose number is the first word
	plain          // all words are fields
	closure        // its code is the first word, then come values, then the instances of handles
	array          // how many elements there are is the first word
)

// noInstance stands in a closure for a handle that there was none of.
const noInstance = -1

// cell is what the machine knows of a cell, whose words lie in the store.
type cell struct {
	kind       int
	instance   int
	parts      []int  // the addresses of its parts: the store has no cells of more than so many words, and none without words
	references []bool // which words are references
	closing    *closing
}

// closing is what all closures of one Close of a run share.
type closing struct {
	fun *code.Function
	by  *code.Instruction
}
