package flat

// value is an int, a bool (1 is true), unit (0), a constructor (its number, and a cell if it has fields), or what has a cell.
type value struct {
	number int64
	cell   *cell
}

// cell is what all that have it share: the parts of a tuple, a constructor, a ref or an array, or what a closure has taken with it.
type cell struct {
	parts   []value
	routine *routine // of a closure
}

// made is a value whose parts are in a cell, if there are any.
func made(number int, parts []value) value {
	if len(parts) == 0 {
		return value{number: int64(number)}
	}
	return value{int64(number), &cell{parts: parts}}
}

func (v value) parts() []value {
	if v.cell == nil {
		return nil
	}
	return v.cell.parts
}

func truth(is bool) value {
	if is {
		return value{number: 1}
	}
	return value{}
}

func numbers(list []int64) []value {
	var out []value
	for _, n := range list {
		out = append(out, value{number: n})
	}
	return out
}
