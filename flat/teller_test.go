package flat_test

import (
	"maps"

	"heriot/api"
)

// teller tells what a program in steps comes to, as the chapter says it: with a map of the variables that are in scope, with Go's own calls, and with panics for what ends a block. Run is held against it.
type teller struct {
	api.Program
	fuel, ticks int
	outs        []int64
}

type (
	thrown struct {
		exn     int
		payload int64
	}
	noFuel struct{}
)

// Values are int64, bool, nil for unit, and these.
type (
	built struct {
		con    int
		fields []any
	}
	holder struct{ parts []any } // a tuple, a ref or an array
	taker  struct {
		body api.Block
		env  map[int]any
	}
)

// tell is the result of a run of a program that is valid.
func tell(p api.Program, args []int64, fuel int) (out api.Result) {
	o := &teller{Program: p, fuel: min(max(0, fuel), api.MaxFuel)}
	defer func() {
		out.Outs, out.Ticks = o.outs, o.ticks
		switch r := recover().(type) {
		case nil:
		case thrown:
			out.Fault, out.Exn, out.Payload = api.FExn, p.Exns[r.exn], r.payload
		case noFuel:
			out.Fault, out.Ticks = api.FFuel, o.fuel
		default:
			panic(r)
		}
	}()
	var values []any
	for _, n := range args {
		values = append(values, n)
	}
	out.Answer = o.call(p.Main, values).(int64)
	return out
}

func (o *teller) spend(ticks int64) {
	if o.ticks+int(ticks) > o.fuel {
		panic(noFuel{})
	}
	o.ticks += int(ticks)
}

func (o *teller) call(fun int, args []any) any {
	env := map[int]any{}
	for i, a := range args {
		env[i] = a
	}
	return o.block(o.Funs[fun].Body, env)
}

func (o *teller) block(b api.Block, around map[int]any, binds ...any) any {
	env := maps.Clone(around)
	for i, v := range binds {
		env[b.Bind[i]] = v
	}
	for _, s := range b.Steps {
		v := o.step(s, env)
		env[s.Out] = v
	}
	return env[b.Value]
}

func (o *teller) handle(s api.Step, env map[int]any) any {
	value, arm := o.try(s, env)
	if arm > 0 {
		return o.block(s.Blocks[arm], env, value)
	}
	return o.block(s.Blocks[1], env, value)
}

// try is the value of a handle's first block, or the payload of an exception and the number of its arm.
func (o *teller) try(s api.Step, env map[int]any) (value any, arm int) {
	defer func() {
		r := recover()
		if x, ok := r.(thrown); ok {
			for i, b := range s.Blocks {
				if i >= 2 && b.Code == x.exn {
					value, arm = x.payload, i
					return
				}
			}
		}
		if r != nil {
			panic(r)
		}
	}()
	return o.block(s.Blocks[0], env), 0
}

func (o *teller) step(s api.Step, env map[int]any) any {
	var args []any
	for _, a := range s.Args {
		args = append(args, env[a])
	}
	switch s.Op {
	case api.OInt:
		return s.Int
	case api.OBool:
		return s.Int == 1
	case api.OUnit:
		return nil
	case api.OMake:
		return built{s.Code, args}
	case api.OTuple, api.ORef:
		return &holder{args}
	case api.OGet:
		return args[0].(*holder).parts[s.Int]
	case api.OCall:
		o.spend(1)
		return o.call(s.Code, args)
	case api.OFn:
		return taker{s.Blocks[0], maps.Clone(env)}
	case api.OApply:
		o.spend(1)
		f := args[0].(taker)
		return o.block(f.body, f.env, args[1])
	case api.ODeref:
		return args[0].(*holder).parts[0]
	case api.OSet:
		args[0].(*holder).parts[0] = args[1]
		return nil
	case api.OHandle:
		return o.handle(s, env)
	case api.OIf:
		if args[0].(bool) {
			return o.block(s.Blocks[0], env)
		}
		return o.block(s.Blocks[1], env)
	case api.OCase:
		v := args[0].(built)
		return o.block(s.Blocks[v.con], env, v.fields...)
	}
	return o.other(s, args)
}

func (o *teller) other(s api.Step, args []any) any {
	switch s.Op {
	case api.OArray:
		n := args[0].(int64)
		if n < 0 || n > api.MaxArray {
			panic(thrown{2, n})
		}
		o.spend(n)
		h := &holder{}
		for range n {
			h.parts = append(h.parts, args[1])
		}
		return h
	case api.OAt:
		return *element(args)
	case api.OPut:
		*element(args) = args[2]
		return nil
	case api.OLen:
		return int64(len(args[0].(*holder).parts))
	case api.ORaise:
		panic(thrown{s.Code, args[0].(int64)})
	case api.OPrint:
		o.outs = append(o.outs, args[0].(int64))
		return nil
	}
	return numeric(s.Op, args[0].(int64), args[1].(int64))
}

func element(args []any) *any {
	parts, i := args[0].(*holder).parts, args[1].(int64)
	if i < 0 || i >= int64(len(parts)) {
		panic(thrown{1, i})
	}
	return &parts[i]
}

func numeric(op int, a, b int64) any {
	if b == 0 && (op == api.ODiv || op == api.OMod) {
		panic(thrown{0, 0})
	}
	switch op {
	case api.OAdd:
		return a + b
	case api.OSub:
		return a - b
	case api.OMul:
		return a * b
	case api.ODiv:
		return a / b
	case api.OMod:
		return a % b
	case api.OEq:
		return a == b
	}
	return a < b
}
