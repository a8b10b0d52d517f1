package types

import "heriot/api"

// view is a type in which some types are put in for its variables. It is written out only where it is needed: the fields of a constructor may be much larger than what is done with them.
type view[T any] struct {
	of  api.Type
	put []T
}

// scope looks up the type of a variable.
type scope[T any] func(name string) (view[T], bool)

// nothing is the scope without variables.
func nothing[T any](string) (view[T], bool) {
	return view[T]{}, false
}

// bind is a scope in which some names hide those of this one.
func (s scope[T]) bind(list []string, of []api.Type, put []T) scope[T] {
	own := map[string]view[T]{}
	for i, name := range list {
		own[name] = view[T]{of[i], put}
	}
	return func(name string) (view[T], bool) {
		if v, ok := own[name]; ok {
			return v, true
		}
		return s(name)
	}
}

// bindTo binds names to types with nothing to be put in.
func (s scope[T]) bindTo(list []string, types ...T) scope[T] {
	return s.bind(list, variables(len(types)), types)
}
