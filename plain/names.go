package plain

// names says where a scope has the values of variables. It is asked once for each place in the text, ahead of the run: a function may have thousands of parameters.
type names struct {
	slots map[string]int
	outer *names
}

func (n *names) bind(list ...string) *names {
	slots := map[string]int{}
	for i, name := range list {
		slots[name] = i
	}
	return &names{slots: slots, outer: n}
}

// find gives the number of the scopes inside the one that has a variable, and the variable's number there.
func (n *names) find(name string) (up, slot int) {
	slot, ok := n.slots[name]
	for !ok {
		up++
		n = n.outer
		slot, ok = n.slots[name]
	}
	return up, slot
}
