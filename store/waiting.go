package store

// row tells how many of some pages, whose numbers follow each other, wait in a row: from the first one on, up to the last one, and at most.
type row struct{ front, back, most int }

// waiting are the pages that wait, in a tree, so that it takes few steps to find the first ones in a row even among very many. Node 1 tells of all pages, node n of those of the nodes 2n and 2n + 1; the second half of the nodes are the pages themselves.
type waiting struct {
	nodes []row
	count int
}

// leaves is how many pages the tree has: a power of two, or 0 for the empty tree.
func (w *waiting) leaves() int { return len(w.nodes) / 2 }

// find gives the least number from which on so many pages wait, if there is one.
func (w *waiting) find(count int) (int, bool) {
	if w.count < count || w.nodes[1].most < count {
		return 0, false
	}
	node, first := 1, 0
	for half := w.leaves() / 2; half > 0; half /= 2 {
		left, right := w.nodes[2*node], w.nodes[2*node+1]
		if left.most < count && left.back+right.front >= count {
			return first + half - left.back, true
		}
		node *= 2
		if left.most < count {
			node++
			first += half
		}
	}
	return first, true
}

// add lets pages wait that did not.
func (w *waiting) add(s stretch) {
	if s.first+s.count > w.leaves() {
		w.grow(s.first + s.count)
	}
	w.mark(s, row{1, 1, 1})
	w.count += s.count
}

// remove takes pages away that waited.
func (w *waiting) remove(s stretch) {
	w.mark(s, row{})
	w.count -= s.count
}

// grow makes the tree one of as many pages at least.
func (w *waiting) grow(pages int) {
	old := w.nodes[w.leaves():]
	leaves := 1
	for leaves < pages {
		leaves *= 2
	}
	w.nodes = make([]row, 2*leaves)
	copy(w.nodes[leaves:], old)
	w.join(leaves, leaves+len(old)-1)
}

// mark gives all pages of a stretch the same row.
func (w *waiting) mark(s stretch, of row) {
	low := w.leaves() + s.first
	high := low + s.count - 1
	for node := low; node <= high; node++ {
		w.nodes[node] = of
	}
	w.join(low, high)
}

// join makes the rows of all nodes anew that tell of some pages.
func (w *waiting) join(low, high int) {
	for half := 1; low > 1; half *= 2 {
		low /= 2
		high /= 2
		for node := low; node <= high; node++ {
			w.nodes[node] = joined(w.nodes[2*node], w.nodes[2*node+1], half)
		}
	}
}

// joined is the row of two rows, of so many pages each, one behind the other.
func joined(left, right row, size int) row {
	both := row{left.front, right.back, max(left.most, right.most, left.back+right.front)}
	if left.front == size {
		both.front += right.front
	}
	if right.back == size {
		both.back += left.back
	}
	return both
}
