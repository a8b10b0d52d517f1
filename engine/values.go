package engine

import "heriot/handles"

// value is an int, a bool (1 is true), unit (0), a constructor (its number, and a cell if it has fields), or what has a cell.
type value struct {
	number int64
	cell   *cell
}

// cell is what all that have it share: the parts of a tuple, a constructor, a ref or an array, or what a closure has captured.
type cell struct {
	parts    []value
	instance int         // of the region in which it lies
	routine  *routine    // of a closure
	handles  handles.Set // of a closure
}

func (v value) parts() []value {
	if v.cell == nil {
		return nil
	}
	return v.cell.parts
}

func truth(is bool) value {
	if is {
		return value{number: 1}
	}
	return value{}
}
