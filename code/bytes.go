package code

// pass goes through the parts of an object, or of an image, in the order of their bytes. There are two: one writes the parts, and the other one reads them.
type pass interface {
	number(n *int)
	integer(n *int64)
	text(s *string)
	count(n int) int // how many elements a list has; when it is written there are so many
	require(ok bool)
}

// writer is the pass that writes.
type writer struct{ bytes []byte }

func (w *writer) groups(n uint64) {
	for ; n >= 128; n >>= 7 {
		w.bytes = append(w.bytes, byte(n)|128)
	}
	w.bytes = append(w.bytes, byte(n))
}

func (w *writer) number(n *int) { w.groups(uint64(*n)) }

func (w *writer) integer(n *int64) {
	// The sign goes to the lowest bit; of a negative int all other bits are turned.
	w.groups(uint64(*n)<<1 ^ uint64(*n>>63))
}

func (w *writer) text(s *string) {
	w.groups(uint64(len(*s)))
	w.bytes = append(w.bytes, *s...)
}

func (w *writer) count(n int) int {
	w.groups(uint64(n))
	return n
}

func (w *writer) require(bool) {}

// reader is the pass that reads. Behind something wrong there is nothing left for it to read.
type reader struct {
	bytes []byte
	wrong bool
}

func (r *reader) require(ok bool) {
	if !ok {
		r.wrong, r.bytes = true, nil
	}
}

// groups reads a number of at most so many bits, which has no more bytes than it needs.
func (r *reader) groups(bits int) uint64 {
	var n uint64
	for i, b := range r.bytes {
		low, shift := uint64(b&127), 7*i
		if shift >= bits || low>>(bits-shift) > 0 || low == 0 && b < 128 && i > 0 {
			break
		}
		n |= low << shift
		if b < 128 {
			r.bytes = r.bytes[i+1:]
			return n
		}
	}
	r.require(false)
	return 0
}

func (r *reader) number(n *int) { *n = int(r.groups(63)) }

func (r *reader) integer(n *int64) {
	turned := r.groups(64)
	*n = int64(turned>>1) ^ -int64(turned&1)
}

func (r *reader) text(s *string) {
	size := r.count(0)
	*s = string(r.bytes[:size])
	r.bytes = r.bytes[size:]
}

// count reads how many elements a list has, each of which has a byte at least.
func (r *reader) count(int) int {
	n := r.groups(63)
	r.require(n <= uint64(len(r.bytes)))
	if r.wrong {
		return 0
	}
	return int(n)
}

// list goes through a list; when it is read, it is empty at first.
func list[T any](p pass, elements *[]T, each func(*T)) {
	for i := range p.count(len(*elements)) {
		if i == len(*elements) {
			var fresh T
			*elements = append(*elements, fresh)
		}
		each(&(*elements)[i])
	}
}

// mark goes through the bytes with which an object, or an image, begins.
func mark(p pass, text string) {
	for i := range len(text) {
		n := int(text[i])
		p.number(&n)
		p.require(n == int(text[i]))
	}
}
