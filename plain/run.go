package plain

import "heriot/api"

// run is what a run has done so far.
type run struct {
	fuel  int
	ticks int
	outs  []int64
}

// spend tells whether there is fuel for some ticks, and spends them.
func (r *run) spend(ticks int) bool {
	if r.ticks+ticks > r.fuel {
		r.ticks = r.fuel
		return false
	}
	r.ticks += ticks
	return true
}

// fill puts the values of some expressions in their places, from left to right; it gives the first one that is an end, if there is one.
func (r *run) fill(places []value, list []code, s *scope) value {
	for i, c := range list {
		places[i] = c(r, s)
		if places[i].isEnd() {
			return places[i]
		}
	}
	return nil
}

// operate gives what an expression comes to whose kids, at most three, have come to values.
func (r *run) operate(e *api.Expr, kids [3]value) value {
	switch e.Kind {
	case api.EGet:
		return kids[0].(tuple)[e.Int]
	case api.EApply:
		return r.apply(kids[0].(closure), kids[1])
	case api.ERef:
		return &ref{kids[0]}
	case api.EDeref:
		return kids[0].(*ref).held
	case api.ESet:
		kids[0].(*ref).held = kids[1]
		return nothing{}
	case api.EArray:
		return r.newArray(int64(kids[0].(number)), kids[1])
	case api.EAt:
		return at(kids[0].(array), int64(kids[1].(number)))
	case api.EPut:
		return put(kids[0].(array), int64(kids[1].(number)), kids[2])
	case api.ELen:
		return number(len(kids[0].(array)))
	case api.ERaise:
		return raised{e.Name, int64(kids[0].(number))}
	case api.EPrint:
		r.outs = append(r.outs, int64(kids[0].(number)))
		return nothing{}
	case api.ESeq:
		return kids[1]
	}
	return arithmetic(e.Kind, kids[0].(number), kids[1].(number))
}

func (r *run) apply(c closure, argument value) value {
	if !r.spend(1) {
		return spent{}
	}
	return c.body(r, c.bound.bind(argument))
}

func (r *run) newArray(size int64, element value) value {
	if size < 0 || size > api.MaxArray {
		return raised{"Size", size}
	}
	if !r.spend(int(size)) {
		return spent{}
	}
	out := make(array, size)
	for i := range out {
		out[i] = element
	}
	return out
}

func (a array) has(i int64) bool { return i >= 0 && i < int64(len(a)) }

func at(a array, i int64) value {
	if !a.has(i) {
		return raised{"Index", i}
	}
	return a[i]
}

func put(a array, i int64, element value) value {
	if !a.has(i) {
		return raised{"Index", i}
	}
	a[i] = element
	return nothing{}
}

func arithmetic(kind int, a, b number) value {
	switch kind {
	case api.EAdd:
		return a + b
	case api.ESub:
		return a - b
	case api.EMul:
		return a * b
	case api.EEq:
		return truth(a == b)
	case api.ELess:
		return truth(a < b)
	}
	if b == 0 {
		return raised{"Div", 0}
	}
	if kind == api.EDiv {
		return a / b
	}
	return a % b
}
