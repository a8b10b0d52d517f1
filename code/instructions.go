// Package code has the code of the machine as data: instructions, functions, objects and images; how they are written as bytes and read; and which of them are well-formed.
package code

import "iter"

// The ops, in the order of their numbers.
const (
	Load = iota
	Move
	Make
	Cell
	Field
	Write
	Close
	Apply
	Call
	Array
	At
	Put
	Len
	Raise
	Try
	Untry
	Print
	Add
	Sub
	Mul
	Div
	Mod
	Eq
	Less
	Branch
	Switch
	Jump
	New
	End
	Return
)

// Instruction is an instruction. The fields that its op has not are zero, so that instructions without lists are the same if they are equal.
type Instruction struct {
	Op     int
	R      int   // the register that gets a value
	A      int   // the registers that are read
	B      int   //
	C      int   //
	H      int   // the name of a region
	N      int   // the number of a constructor, a field, a code, a function or an exception
	To     int   // the number of an instruction
	Int    int64 // of Load
	*Lists       // nil if the op has none
}

// Lists are what stands in the lists of an instruction.
type Lists struct {
	Registers []int
	Regions   []int
	Pairs     []Pair
	Arms      []Arm
	Cases     []Case
}

// Pair says which handle a Call hands to its callee, and how.
type Pair struct{ Region, Mode int }

// Arm says where a Try goes on by an exception, whose payload a register gets.
type Arm struct{ Exn, Register, To int }

// Case says where a Switch goes on by a constructor, whose fields some registers get.
type Case struct {
	To        int
	Registers []int
}

// layouts are the operands of the instructions of each op, in their order: R, A, B, C, H are the fields of these names; K is the number of a code, F of a function, X of an exception, N any other one; T is an instruction, V an int; r, h, p, x, c are lists of registers, of regions, of pairs, of arms and of cases.
var layouts = [...]string{
	Load: "RV", Move: "RA", Make: "RHNr", Cell: "RHr", Field: "RAN", Write: "AB", Close: "RHKrh", Apply: "RAB", Call: "RFrp",
	Array: "RHAB", At: "RAB", Put: "ABC", Len: "RA", Raise: "XA", Try: "hx", Untry: "", Print: "A",
	Add: "RAB", Sub: "RAB", Mul: "RAB", Div: "RAB", Mod: "RAB", Eq: "RAB", Less: "RAB",
	Branch: "AT", Switch: "Ac", Jump: "T", New: "H", End: "H", Return: "A",
}

// isOp tells whether there is an op of a number.
func isOp(n int) bool { return n >= 0 && n < len(layouts) }

// Function is a function as objects and images have it.
type Function struct {
	Name      string
	Params    int
	Registers int
	Regions   int
	Touch     []int
	Codes     [][]Instruction
}

// Exception is an exception that the program has declared, by its number.
type Exception struct {
	Number int
	Name   string
}

// Object is the code of a unit.
type Object struct {
	Unit  int
	Ahead int // how many functions of the program are ahead of its own
	Funs  []Function
	Exns  []Exception
	Main  int // the number of main among its functions plus one, or 0
}

// Image is the code of a program.
type Image struct {
	Funs []Function
	Exns []Exception
	Main int
}

// Instructions goes through the instructions of functions.
func Instructions(funs []Function) iter.Seq[*Instruction] {
	return func(yield func(*Instruction) bool) {
		for i := range funs {
			for _, list := range funs[i].Codes {
				for k := range list {
					if !yield(&list[k]) {
						return
					}
				}
			}
		}
	}
}
