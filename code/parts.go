package code

// The bytes with which objects and images begin.
const (
	objectMark = "HRO\x01"
	imageMark  = "HRI\x01"
)

// Bytes writes an object.
func (o *Object) Bytes() []byte {
	var w writer
	o.goThrough(&w)
	return w.bytes
}

// ReadObject reads an object, and tells whether it is well-formed.
func ReadObject(bytes []byte) (*Object, bool) {
	r, o := &reader{bytes: bytes}, &Object{}
	o.goThrough(r)
	return o, r.hasEnded() && o.isRight()
}

// Bytes writes an image.
func (m *Image) Bytes() []byte {
	var w writer
	m.goThrough(&w)
	return w.bytes
}

// ReadImage reads an image, and tells whether it is well-formed.
func ReadImage(bytes []byte) (*Image, bool) {
	r, m := &reader{bytes: bytes}, &Image{}
	m.goThrough(r)
	return m, r.hasEnded() && m.isRight()
}

// hasEnded tells whether all bytes were read, and nothing was wrong.
func (r *reader) hasEnded() bool { return !r.wrong && len(r.bytes) == 0 }

func (o *Object) goThrough(p pass) {
	mark(p, objectMark)
	p.number(&o.Unit)
	p.number(&o.Ahead)
	functions(p, &o.Funs)
	exceptions(p, &o.Exns)
	p.number(&o.Main)
}

func (m *Image) goThrough(p pass) {
	mark(p, imageMark)
	functions(p, &m.Funs)
	exceptions(p, &m.Exns)
	p.number(&m.Main)
}

func exceptions(p pass, all *[]Exception) {
	list(p, all, func(e *Exception) {
		p.number(&e.Number)
		p.text(&e.Name)
	})
}

func functions(p pass, all *[]Function) {
	list(p, all, func(f *Function) {
		p.text(&f.Name)
		p.number(&f.Params)
		p.number(&f.Registers)
		p.number(&f.Regions)
		list(p, &f.Touch, p.number)
		list(p, &f.Codes, func(of *[]Instruction) {
			list(p, of, func(in *Instruction) { in.goThrough(p) })
		})
	})
}

func (in *Instruction) goThrough(p pass) {
	p.number(&in.Op)
	p.require(isOp(in.Op))
	if !isOp(in.Op) {
		return
	}
	for _, operand := range layouts[in.Op] {
		in.operand(p, operand)
	}
}

func (in *Instruction) operand(p pass, operand rune) {
	switch operand {
	case 'R':
		p.number(&in.R)
	case 'A':
		p.number(&in.A)
	case 'B':
		p.number(&in.B)
	case 'C':
		p.number(&in.C)
	case 'H':
		p.number(&in.H)
	case 'K', 'F', 'X', 'N':
		p.number(&in.N)
	case 'T':
		p.number(&in.To)
	case 'V':
		p.integer(&in.Int)
	default:
		if in.Lists == nil {
			in.Lists = &Lists{}
		}
		in.list(p, operand)
	}
}

func (l *Lists) list(p pass, operand rune) {
	switch operand {
	case 'r':
		list(p, &l.Registers, p.number)
	case 'h':
		list(p, &l.Regions, p.number)
	case 'p':
		list(p, &l.Pairs, func(one *Pair) {
			p.number(&one.Region)
			p.number(&one.Mode)
		})
	case 'x':
		list(p, &l.Arms, func(one *Arm) {
			p.number(&one.Exn)
			p.number(&one.Register)
			p.number(&one.To)
		})
	case 'c':
		list(p, &l.Cases, func(one *Case) {
			p.number(&one.To)
			list(p, &one.Registers, p.number)
		})
	}
}
