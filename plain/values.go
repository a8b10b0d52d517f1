package plain

// value is what an expression comes to: a value of the language, or an end: a raised exception, or that the fuel is spent. Ends are values, too, so that each expression hands on what ended one of its kids as it hands on any other value.
type value interface {
	// isEnd tells whether the expressions around are not evaluated any further.
	isEnd() bool
}

type (
	number  int64
	truth   bool
	nothing struct{} // unit

	// made is a constructor, by its number in its data type.
	made struct {
		con    int
		fields []value
	}

	tuple []value

	// closure has the variables that were bound where it was made.
	closure struct {
		body  code
		bound *scope
	}

	ref struct{ held value }

	// array is a slice, so that all who have it have the same elements.
	array []value

	// raised is the end by an exception.
	raised struct {
		exn     string
		payload int64
	}

	// spent is the end of the fuel.
	spent struct{}
)

func (number) isEnd() bool  { return false }
func (truth) isEnd() bool   { return false }
func (nothing) isEnd() bool { return false }
func (made) isEnd() bool    { return false }
func (tuple) isEnd() bool   { return false }
func (closure) isEnd() bool { return false }
func (*ref) isEnd() bool    { return false }
func (array) isEnd() bool   { return false }
func (raised) isEnd() bool  { return true }
func (spent) isEnd() bool   { return true }

// scope has the values of the variables that were bound together last; behind it are those that were bound around them.
type scope struct {
	values []value
	outer  *scope
}

func (s *scope) bind(values ...value) *scope {
	return &scope{values: values, outer: s}
}
