package types_test

import (
	"math/rand"
	"reflect"
	"slices"
	"strconv"
	"testing"

	"heriot/api"
	"heriot/types"
)

const rounds = 250

// without is an expression without its types.
func without(e api.Expr) api.Expr {
	e = copied(e)
	every(&e, func(x *api.Expr) { x.Type, x.Inst = api.Type{}, nil })
	return e
}

// eachFun goes through the functions of units, in their order.
func eachFun(units []api.Unit, visit func(unit, number int, f *api.FunDecl)) {
	number := 0
	for i := range units {
		for _, d := range units[i].Decls {
			for j := range d.Funs {
				visit(i, number, &d.Funs[j])
				number++
			}
		}
	}
}

// TestFound: P2.1, for programs that are well typed, and for others that are spoilt here and there.
func TestFound(t *testing.T) {
	results := map[api.Errno]int{}
	for seed := range rounds {
		units := makeUnits(t, seed, 0)
		p, r := types.Infer(units)
		if r != (api.Refusal{}) {
			t.Fatalf("%d: a program that is well typed: %+v", seed, r)
		}
		checkFound(t, seed, units, p)
		units = makeUnits(t, seed, 40+seed%80)
		p, r = types.Infer(units)
		results[r.E]++
		if r.E == api.OK {
			checkFound(t, seed, units, p)
		} else if !reflect.DeepEqual(p, api.Typed{}) || r.Unit < 1 || r.Unit > 2 || r.At <= 0 {
			t.Fatalf("%d: a refusal at no place: %+v", seed, r)
		}
	}
	for _, e := range []api.Errno{api.OK, api.ErrUnknown, api.ErrMismatch, api.ErrNote, api.ErrCount} {
		if results[e] < rounds/100 {
			t.Errorf("too few cases of %d: %v", e, results)
		}
	}
}

func checkFound(t *testing.T, seed int, units []api.Unit, p api.Typed) {
	t.Helper()
	if e := types.Verify(p); e != api.OK {
		t.Fatalf("%d: Verify: %d", seed, e)
	}
	if !reflect.DeepEqual(copied(p.Datas), copied(datas)) || !slices.Equal(p.Exns, []string{"Div", "Index", "Size", "e1", "e2"}) {
		t.Fatalf("%d: %+v, %v", seed, p.Datas, p.Exns)
	}
	count := 0
	eachFun(units, func(unit, number int, f *api.FunDecl) {
		count++
		got := p.Funs[number]
		if got.Name != f.Name || got.Unit != unit || !slices.Equal(got.Params, f.Params) || !reflect.DeepEqual(without(got.Body), copied(f.Body)) {
			t.Fatalf("%d: %s: %+v, not %+v", seed, f.Name, got, f)
		}
		checkNumbers(t, got)
	})
	if count != len(p.Funs) || p.Funs[p.Main].Name != "main" {
		t.Fatalf("%d: %d functions, main %d", seed, len(p.Funs), p.Main)
	}
}

// checkNumbers: the type variables of a scheme are numbered by their first places.
func checkNumbers(t *testing.T, f api.TypedFun) {
	t.Helper()
	next := 0
	var look func(of api.Type)
	look = func(of api.Type) {
		if of.Kind == api.TVar {
			if of.N > next {
				t.Fatalf("%s: variable %d ahead of %d", f.Name, of.N, next)
			}
			next = max(next, of.N+1)
		}
		for _, a := range of.Args {
			look(a)
		}
	}
	for _, p := range f.Scheme.Params {
		look(p)
	}
	look(f.Scheme.Result)
	if next != f.Scheme.Vars {
		t.Fatalf("%s: %d variables, not %d", f.Name, f.Scheme.Vars, next)
	}
}

// note writes a scheme at a function.
func note(f *api.FunDecl, s api.Scheme) {
	f.Noted, f.Types = true, nil
	for _, p := range s.Params {
		f.Types = append(f.Types, named(p))
	}
	f.Result = named(s.Result)
}

// named is a type as it is written in a tree.
func named(t api.Type) api.Type {
	out := api.Type{Kind: t.Kind}
	switch t.Kind {
	case api.TVar:
		out.Name = "v" + strconv.Itoa(t.N)
	case api.TData:
		out.Name = datas[t.N].Name
	}
	for _, a := range t.Args {
		out.Args = append(out.Args, named(a))
	}
	return out
}

// bare takes all notes away.
func bare(units []api.Unit) []api.Unit {
	units = copied(units)
	eachFun(units, func(_, _ int, f *api.FunDecl) { f.Noted, f.Types, f.Result = false, nil, api.Type{} })
	return units
}

// TestNotesOfFound: P2.3.
func TestNotesOfFound(t *testing.T) {
	taken, special := 0, map[api.Errno]int{}
	for seed := range rounds {
		units := makeUnits(t, seed, 0)
		p, r := types.Infer(units)
		if r.E != api.OK {
			continue
		}
		taken++
		noted := copied(units)
		eachFun(noted, func(_, n int, f *api.FunDecl) { note(f, p.Funs[n].Scheme) })
		checkSchemes(t, seed, noted, p)
		if isBare(units) {
			// The functions of one declaration are noted together: the variables of a noted one may not go into another one.
			checkSchemes(t, seed, notedInPart(noted, seed), p)
		}
		checkSpecial(t, seed, units, p, special)
	}
	if taken < rounds/2 || special[api.OK] < rounds/10 || special[api.ErrMismatch] < rounds/30 {
		t.Errorf("too few cases: %d, %v", taken, special)
	}
}

// notedInPart takes the notes of some declarations away.
func notedInPart(units []api.Unit, seed int) []api.Unit {
	units = copied(units)
	some := rand.New(rand.NewSource(int64(seed)))
	for i := range units {
		for _, d := range units[i].Decls {
			if some.Intn(2) == 0 {
				continue
			}
			for j := range d.Funs {
				d.Funs[j].Noted, d.Funs[j].Types, d.Funs[j].Result = false, nil, api.Type{}
			}
		}
	}
	return units
}

// isBare tells whether no function of some units is noted.
func isBare(units []api.Unit) bool {
	out := true
	eachFun(units, func(_, _ int, f *api.FunDecl) { out = out && !f.Noted })
	return out
}

func checkSchemes(t *testing.T, seed int, units []api.Unit, want api.Typed) {
	t.Helper()
	got, r := types.Infer(units)
	if r.E != api.OK {
		t.Fatalf("%d: with notes: %+v", seed, r)
	}
	for i, f := range got.Funs {
		if !reflect.DeepEqual(copied(f.Scheme), copied(want.Funs[i].Scheme)) {
			t.Fatalf("%d: %s with notes: %+v, not %+v", seed, f.Name, f.Scheme, want.Funs[i].Scheme)
		}
	}
}

// specialize puts a type in for one of the variables of a scheme, and numbers the others by their first places.
func specialize(s api.Scheme, which int, of api.Type) api.Scheme {
	inst := make([]api.Type, s.Vars)
	next := 0
	for n := range inst {
		inst[n] = of
		if n != which {
			inst[n] = variable(next)
			next++
		}
	}
	out := api.Scheme{Vars: next, Result: put(s.Result, inst)}
	for _, p := range s.Params {
		out.Params = append(out.Params, put(p, inst))
	}
	return out
}

// checkSpecial writes one scheme with a type put in for one of its variables: where that is taken, it is the scheme.
func checkSpecial(t *testing.T, seed int, units []api.Unit, p api.Typed, results map[api.Errno]int) {
	t.Helper()
	for i, f := range p.Funs {
		if f.Scheme.Vars == 0 || (seed+i)%3 != 0 {
			continue
		}
		s := specialize(f.Scheme, seed%f.Scheme.Vars, []api.Type{integer, data(1, boolean), nothing}[seed%3])
		special := copied(units)
		eachFun(special, func(_, n int, d *api.FunDecl) {
			note(d, p.Funs[n].Scheme)
			if n == i {
				note(d, s)
			}
		})
		got, r := types.Infer(special)
		results[r.E]++
		if r.E == api.OK && !reflect.DeepEqual(copied(got.Funs[i].Scheme), copied(s)) {
			t.Fatalf("%d: %s: %+v, not the written %+v", seed, f.Name, got.Funs[i].Scheme, s)
		}
		if r.E == api.OK {
			checkGeneral(t, seed, special, got)
		}
	}
}

// callsOwn tells whether each call within a declaration is at the callee's own variables, as the same ones of the caller.
func callsOwn(units []api.Unit, p api.Typed) bool {
	own, number := true, 0
	for _, u := range units {
		for _, d := range u.Decls {
			names := map[string]bool{}
			for _, f := range d.Funs {
				names[f.Name] = true
			}
			for range d.Funs {
				every(&p.Funs[number].Body, func(e *api.Expr) {
					for i, of := range e.Inst {
						own = own && (e.Kind != api.ECall || !names[e.Name] || isSame(of, variable(i)))
					}
				})
				number++
			}
		}
	}
	return own
}

// checkGeneral: P2.2: the schemes of a program that Verify takes are what Infer finds without notes, with types put in. (A function that is called in its own declaration at another type than its own one is called at two: without notes it has just one there.)
func checkGeneral(t *testing.T, seed int, units []api.Unit, p api.Typed) {
	t.Helper()
	if e := types.Verify(p); e != api.OK {
		t.Fatalf("%d: Verify: %d", seed, e)
	}
	general, r := types.Infer(bare(units))
	if r.E != api.OK || !callsOwn(units, p) {
		return
	}
	for i, f := range p.Funs {
		of := general.Funs[i].Scheme
		inst := make([]*api.Type, of.Vars)
		whole := match(of.Result, f.Scheme.Result, inst)
		for j, param := range of.Params {
			whole = whole && match(param, f.Scheme.Params[j], inst)
		}
		if !whole {
			t.Fatalf("%d: %s: %+v is no instance of %+v", seed, f.Name, f.Scheme, of)
		}
	}
}

// renamer gives other names to variables where they are bound.
type renamer struct{ count int }

func (r *renamer) fresh() string {
	r.count++
	return "n" + strconv.Itoa(r.count)
}

func (r *renamer) list(names []string, around map[string]string) ([]string, map[string]string) {
	inner := map[string]string{}
	for k, v := range around {
		inner[k] = v
	}
	var out []string
	for _, n := range names {
		inner[n] = r.fresh()
		out = append(out, inner[n])
	}
	return out, inner
}

func (r *renamer) expr(e *api.Expr, around map[string]string) {
	last := around
	switch e.Kind {
	case api.EName:
		if n, ok := around[e.Name]; ok {
			e.Name = n
		} else {
			e.Name = "unbound"
		}
	case api.ELet, api.EFn:
		var own []string
		own, last = r.list([]string{e.Name}, around)
		e.Name = own[0]
	}
	for i := range e.Kids {
		if i < len(e.Kids)-1 {
			r.expr(&e.Kids[i], around)
		} else {
			r.expr(&e.Kids[i], last)
		}
	}
	for i := range e.Arms {
		var inner map[string]string
		e.Arms[i].Vars, inner = r.list(e.Arms[i].Vars, around)
		r.expr(&e.Arms[i].Body, inner)
	}
}

// TestOtherNames: P2.4.
func TestOtherNames(t *testing.T) {
	taken := 0
	for seed := range rounds {
		units := makeUnits(t, seed, 40*(seed%4))
		p, r := types.Infer(units)
		again, s := types.Infer(units)
		if r != s || !reflect.DeepEqual(p, again) {
			t.Fatalf("%d: %+v, and then %+v", seed, r, s)
		}
		other := copied(units)
		eachFun(other, func(_, _ int, f *api.FunDecl) {
			var names renamer
			own, scope := names.list(f.Params, nil)
			f.Params = own
			names.expr(&f.Body, scope)
		})
		q, s := types.Infer(other)
		if r != s {
			t.Fatalf("%d: %+v, with other names %+v", seed, r, s)
		}
		if r.E == api.OK {
			taken++
		}
		for i := range p.Funs {
			if !reflect.DeepEqual(p.Funs[i].Scheme, q.Funs[i].Scheme) || !reflect.DeepEqual(typesIn(p.Funs[i].Body), typesIn(q.Funs[i].Body)) {
				t.Fatalf("%d: %s: other types with other names", seed, p.Funs[i].Name)
			}
		}
	}
	if taken < rounds/3 {
		t.Errorf("too few cases: %d", taken)
	}
}

// typesIn lists all types in a body.
func typesIn(e api.Expr) []api.Type {
	var out []api.Type
	every(&e, func(x *api.Expr) { out = append(append(out, x.Type), x.Inst...) })
	return out
}

// TestSpoilt: P1 for programs with types that are spoilt in one place; and what Verify takes has those types: Infer takes it with these notes, and finds nothing that is less general.
func TestSpoilt(t *testing.T) {
	results := map[api.Errno]int{}
	for seed := range 2 * rounds {
		units := makeUnits(t, seed, 0)
		p, r := types.Infer(units)
		if r.E != api.OK {
			continue
		}
		some := rand.New(rand.NewSource(int64(seed)))
		p = copied(p)
		which := some.Intn(len(p.Funs))
		whole := spoilOne(some, reflect.ValueOf(&p.Funs[which].Body).Elem())
		if some.Intn(3) == 0 {
			whole = spoilOne(some, reflect.ValueOf(&p.Funs[which].Scheme).Elem())
		} else if some.Intn(5) == 0 {
			whole = spoilOne(some, reflect.ValueOf(&p).Elem())
		}
		before := copied(p)
		e := types.Verify(p)
		results[e]++
		if !reflect.DeepEqual(copied(p), before) {
			t.Fatalf("%d: Verify changes its argument", seed)
		}
		if e != api.OK || !whole {
			continue
		}
		noted := copied(units)
		eachFun(noted, func(_, n int, f *api.FunDecl) {
			note(f, p.Funs[n].Scheme)
			f.Body = without(p.Funs[n].Body)
		})
		if _, r := types.Infer(noted); r.E != api.OK {
			t.Fatalf("%d: Verify takes what Infer with notes does not: %+v", seed, r)
		}
		checkGeneral(t, seed, noted, p)
	}
	for _, e := range []api.Errno{api.OK, api.ErrForm, api.ErrUnknown, api.ErrMismatch, api.ErrCount} {
		if results[e] < rounds/100 {
			t.Errorf("too few cases of %d: %v", e, results)
		}
	}
}

// spoilOne changes one field, and tells whether the rest of the program can be held against its units still.
func spoilOne(some *rand.Rand, v reflect.Value) bool {
	whole := v.Type() != reflect.TypeFor[api.Typed]()
	var fields []reflect.Value
	gather(v, &fields)
	v = fields[some.Intn(len(fields))]
	switch v.Kind() {
	case reflect.Int, reflect.Int64:
		v.SetInt([]int64{0, 1, 2, 3, 4, 5, -1, 30, 31, 1000}[some.Intn(10)])
	case reflect.String:
		v.SetString([]string{"", "x", "y", "p0", "Pair", "Nil", "Div", "e1", "f0a", "int", "none"}[some.Intn(11)])
	case reflect.Slice:
		n := v.Len()
		switch {
		case n > 0 && some.Intn(3) == 0:
			v.Set(v.Slice(0, n-1))
		case n > 1 && some.Intn(2) == 0:
			v.Index(0).Set(deep(v.Index(n - 1)))
		case n > 0 && some.Intn(2) == 0:
			v.Set(reflect.Append(v, deep(v.Index(0))))
		default:
			v.Set(reflect.Append(v, reflect.Zero(v.Type().Elem())))
		}
	}
	return whole
}

// gather finds the fields that can be changed by themselves.
func gather(v reflect.Value, out *[]reflect.Value) {
	if v.Kind() == reflect.Struct {
		for i := range v.NumField() {
			gather(v.Field(i), out)
		}
		return
	}
	*out = append(*out, v)
	if v.Kind() == reflect.Slice {
		for i := range v.Len() {
			gather(v.Index(i), out)
		}
	}
}
