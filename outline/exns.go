package outline

// The numbers of the exceptions that every program has.
const (
	Div = iota
	Index
	Size
)

// HasOwnExns tells whether a list of exceptions begins with those that every program has.
func HasOwnExns(names []string) bool {
	return len(names) > Size && names[Div] == "Div" && names[Index] == "Index" && names[Size] == "Size"
}
