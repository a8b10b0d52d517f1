package flat

import "heriot/api"

// fits tells whether a type is another one in which some types are put in for its variables. The other one is not written out: it may be much larger.
func fits(t, of *api.Type, put []api.Type) bool {
	if of.Kind == api.TVar {
		return areSame(t, &put[of.N])
	}
	if t.Kind != of.Kind || t.N != of.N || len(t.Args) != len(of.Args) {
		return false
	}
	for i := range t.Args {
		if !fits(&t.Args[i], &of.Args[i], put) {
			return false
		}
	}
	return true
}

// allFit tells whether types fit a list of others, one each.
func allFit(types []*api.Type, of, put []api.Type) bool {
	if len(types) != len(of) {
		return false
	}
	for i, t := range types {
		if !fits(t, &of[i], put) {
			return false
		}
	}
	return true
}

func areSame(a, b *api.Type) bool {
	if a.Kind != b.Kind || a.N != b.N || len(a.Args) != len(b.Args) {
		return false
	}
	for i := range a.Args {
		if !areSame(&a.Args[i], &b.Args[i]) {
			return false
		}
	}
	return true
}

// allAre tells whether types are those of a list, one each.
func allAre(types []*api.Type, list []api.Type) bool {
	if len(types) != len(list) {
		return false
	}
	for i, t := range types {
		if !areSame(t, &list[i]) {
			return false
		}
	}
	return true
}

// instance writes out a type in which some types are put in for its variables.
func instance(of *api.Type, put []api.Type) api.Type {
	if of.Kind == api.TVar {
		return put[of.N]
	}
	t := *of
	t.Args = nil
	for i := range of.Args {
		t.Args = append(t.Args, instance(&of.Args[i], put))
	}
	return t
}
