package bounds_test

import (
	"fmt"
	"math/big"
	"slices"
	"strings"

	"heriot/api"
	"heriot/outline"
)

// choice goes through the blocks of an OIf, an OCase or an OHandle, and joins what they come to.
func (j *judge) choice(at *moment, s api.Step, end bool) {
	var begins []moment
	blocks := s.Blocks
	switch s.Op {
	case api.OIf:
		for i := range blocks {
			begins = append(begins, at.copy())
			j.test(&begins[i], s, i)
		}
	case api.OCase:
		for i := range blocks {
			begins = append(begins, at.copy())
			j.fields(&begins[i], s, i)
		}
	case api.OHandle:
		begins = j.handle(at, s)
		blocks = blocks[1:]
	}
	var ends []moment
	for i, b := range blocks {
		before := len(at.puts)
		j.block(&begins[i], b, end)
		if !end {
			begins[i].putBack(before)
		}
		ends = append(ends, begins[i])
	}
	if !end {
		at.join(ends, blocks, s.Out)
	}
}

// putBack puts all back that was put behind the first ones.
func (p *moment) putBack(before int) {
	for len(p.puts) > before {
		last := p.puts[len(p.puts)-1]
		p.puts = p.puts[:len(p.puts)-1]
		parts := map[string]bool{}
		for _, name := range last.parts {
			parts[name] = true
		}
		for name, s := range p.sums {
			p.sums[name] = s.back(last.u, last.w, parts)
		}
	}
}

// join joins the ends of blocks behind a step.
func (p *moment) join(ends []moment, blocks []api.Block, out int) {
	for name := range p.sums {
		if strings.HasPrefix(name, "held ") && ends[0].sums[name] == nil {
			if _, ok := ends[0].sums[name]; !ok {
				delete(p.sums, name)
				delete(p.sums, "high "+name)
			}
		}
	}
	for _, prefix := range []string{"held ", "grown ", "behind ", "high ", "lambda"} {
		for name := range p.sums {
			if !strings.HasPrefix(name, prefix) {
				continue
			}
			var list []sum
			for _, e := range ends {
				list = append(list, e.sums[name])
			}
			if prefix == "high " || prefix == "lambda" {
				list = append(list, p.sums[name])
			}
			p.sums[name] = most(list...)
		}
	}
	k := known{least: ends[0].vars[blocks[0].Value].least}
	bound := sum{}
	costs := ends[0].costs(blocks[0].Value)
	for i, e := range ends {
		v := e.vars[blocks[i].Value]
		if !v.hasBound {
			bound = nil
		} else if bound != nil {
			bound = most(bound, e.bound(blocks[i].Value))
		}
		if k.least == nil || v.least == nil {
			k.least = nil
		} else if v.least.Cmp(k.least) < 0 {
			k.least = v.least
		}
		costs = costs[:min(len(costs), v.costs)]
		for n := range costs {
			costs[n] = most(costs[n], e.costs(blocks[i].Value)[n])
		}
	}
	p.set(out, bound, k, costs...)
}

// test knows what x < y says in a block of an OIf.
func (j *judge) test(at *moment, s api.Step, block int) {
	xy := at.vars[s.Args[0]].tests
	if xy == nil {
		return
	}
	v, m := xy[1], at.vars[xy[0]].constant
	if block == 1 {
		v, m = xy[0], at.vars[xy[1]].constant
	}
	if m == nil {
		return
	}
	if block == 0 {
		m = new(big.Int).Add(m, big.NewInt(1))
	}
	k := at.vars[v]
	if k.least == nil || k.least.Cmp(m) < 0 {
		k.least = m
		at.vars[v] = k
	}
	u, ok := single(at.bound(v))
	if ok && m.Sign() > 0 && m.Cmp(big.NewInt(4096)) <= 0 {
		j.put(at, u, m.Int64(), 1)
	}
}

// fields knows what a constructor's fields are.
func (j *judge) fields(at *moment, s api.Step, block int) {
	bind := s.Blocks[block].Bind
	t := j.types[s.Args[0]]
	in := outline.At(&t)
	var parts []int
	for i, v := range bind {
		j.types[v] = in.Written(&j.Datas[t.N].Cons[block].Fields[i])
		at.set(v, zeroOr(j.types[v]), known{})
		if isPart(j.types[v]) {
			parts = append(parts, v)
		}
	}
	if len(bind) == 0 || !at.vars[s.Args[0]].hasBound {
		return
	}
	w := int64(1 + len(bind))
	if u, ok := single(at.bound(s.Args[0])); ok {
		for i, name := range j.put(at, u, w, len(parts)+1)[:len(parts)] {
			at.set(parts[i], variable(name), known{})
		}
		return
	}
	bound := at.bound(s.Args[0]).less(w)
	for _, v := range parts {
		at.set(v, bound, known{})
	}
}

// handle goes through what is tried, and gives the begins of the other blocks.
func (j *judge) handle(at *moment, s api.Step) []moment {
	tried := at.copy()
	before := len(at.puts)
	j.block(&tried, s.Blocks[0], false)
	tried.putBack(before)
	value := s.Blocks[0].Value
	behind := tried.copy()
	for v, k := range tried.vars {
		if _, ok := at.vars[v]; !ok {
			delete(behind.vars, v)
			delete(behind.sums, fmt.Sprint("bound ", v))
			for n := range k.costs {
				delete(behind.sums, fmt.Sprint("cost ", v, " ", n))
			}
		}
	}
	bind := s.Blocks[1].Bind[0]
	j.types[bind] = j.types[value]
	behind.set(bind, tried.bound(value), known{least: tried.vars[value].least}, tried.costs(value)...)
	out := []moment{behind}
	for _, b := range s.Blocks[2:] {
		arm := at.copy()
		for name := range at.sums {
			var kind string
			var n int
			count, _ := fmt.Sscanf(name, "%s %d", &kind, &n)
			switch {
			case count == 2 && kind == "held" && !slices.Contains(s.Keep, n):
				arm.drop(n)
			case count == 2 && (kind == "held" || kind == "grown" || kind == "behind"):
				arm.start(kind, n, tried.sums["high "+name])
			case name == "lambda":
				arm.sums[name] = tried.sums[name]
			}
		}
		j.types[b.Bind[0]] = api.Type{}
		arm.set(b.Bind[0], nil, known{})
		out = append(out, arm)
	}
	return out
}
