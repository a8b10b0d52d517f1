package plain

import "heriot/api"

func literal(v value) code {
	return func(*run, *scope) value { return v }
}

// variable is the variable with a number in the scope that lies so many scopes outside.
func variable(up, slot int) code {
	return func(_ *run, s *scope) value {
		for range up {
			s = s.outer
		}
		return s.values[slot]
	}
}

func call(f *function, args []code) code {
	return func(r *run, s *scope) value {
		values := make([]value, len(args))
		if end := r.fill(values, args, s); end != nil {
			return end
		}
		if !r.spend(1) {
			return spent{}
		}
		return f.body(r, &scope{values: values})
	}
}

func making(con int, fields []code) code {
	return func(r *run, s *scope) value {
		values := make([]value, len(fields))
		if end := r.fill(values, fields, s); end != nil {
			return end
		}
		return made{con, values}
	}
}

func tupling(parts []code) code {
	return func(r *run, s *scope) value {
		values := make([]value, len(parts))
		if end := r.fill(values, parts, s); end != nil {
			return end
		}
		return tuple(values)
	}
}

func let(bound, body code) code {
	return func(r *run, s *scope) value {
		v := bound(r, s)
		if v.isEnd() {
			return v
		}
		return body(r, s.bind(v))
	}
}

func choice(condition, yes, no code) code {
	return func(r *run, s *scope) value {
		v := condition(r, s)
		if v.isEnd() {
			return v
		}
		if v.(truth) {
			return yes(r, s)
		}
		return no(r, s)
	}
}

func cases(of code, arms []code) code {
	return func(r *run, s *scope) value {
		v := of(r, s)
		if v.isEnd() {
			return v
		}
		m := v.(made)
		return arms[m.con](r, s.bind(m.fields...))
	}
}

func lambda(body code) code {
	return func(_ *run, s *scope) value { return closure{body, s} }
}

func handle(body code, arms map[string]code) code {
	return func(r *run, s *scope) value {
		v := body(r, s)
		x, ok := v.(raised)
		if !ok {
			return v
		}
		arm, ok := arms[x.exn]
		if !ok {
			return v
		}
		return arm(r, s.bind(number(x.payload)))
	}
}

// operation is an expression that is evaluated when all its kids have been.
func operation(e *api.Expr, kids []code) code {
	return func(r *run, s *scope) value {
		var values [3]value
		if end := r.fill(values[:], kids, s); end != nil {
			return end
		}
		return r.operate(e, values)
	}
}
