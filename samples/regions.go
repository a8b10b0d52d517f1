package samples

import (
	"slices"
	"strconv"

	"heriot/api"
)

// declared is what all region programs by chance have ahead of their functions.
const declared = `data list 1 = Nil | Cons v0 (d0 v0 @0 {e0}); data color 0 = Red | Green; data doer 0 = Do (-> int int @0 {e0}) | Wait int; exn no; exn why;`

// declaredFlat are the same data types for flat programs.
const declaredFlat = `data list 1 = Nil | Cons v0 (d0 v0); data color 0 = Red | Green; data doer 0 = Do (-> int int) | Wait int;`

// variable is a variable that is in scope.
type variable struct {
	number int
	is     api.Type
}

// room is the function or the lambda whose steps are made: what it may touch beside what it owns; in a flat program that does not matter.
type room struct {
	isFlat   bool
	isLambda bool
	may      api.Effect
}

// scene is a place in a block: what is in scope there, which regions are live, and which of these the block has to consume.
type scene struct {
	room
	scope   []variable
	regions []int
	live    []int
	mine    []int
	steps   []api.Step
}

// composer makes region programs by chance, which the checker takes; or flat programs.
type composer struct {
	chance
	api.Program
	isFlat     bool
	isStraight bool // no block but those of lambdas, no closure is called and no region handed over outside of these, and no function calls itself
	fun        *api.Fun
	next       int // the next variable
	local      int // the next local
	left       int // how many steps may still be made, about
	inside     int // how many blocks are around
}

// Regions gives a region program, another one for each number; main has two parameters. Functions call those ahead and themselves.
func Regions(number int) api.Program {
	c := newComposer(number)
	for i := range 2 + c.below(4) {
		c.compose(c.declare(c.signature("f" + strconv.Itoa(i))))
	}
	return c.whole()
}

// Mutual gives a region program as Regions does, but its functions call each other as they like.
func Mutual(number int) api.Program {
	c := newComposer(number)
	for i := range 2 + c.below(3) {
		c.declare(c.signature("f" + strconv.Itoa(i)))
	}
	for i := range c.Funs {
		c.compose(i)
	}
	return c.whole()
}

// Straight gives a region program as Regions does, but outside of lambdas nothing is chosen, no closure is called, and no region is handed over; no function calls itself, perhaps over others.
func Straight(number int) api.Program {
	c := newComposer(number)
	c.isStraight = true
	for i := range 1 + c.below(3) {
		c.compose(c.declare(c.signature("f" + strconv.Itoa(i))))
	}
	return c.whole()
}

// isBare tells whether steps that are made have to go straight on.
func (c *composer) isBare(s *scene) bool { return c.isStraight && !s.isLambda }

// Flat gives a flat program with many closures, another one for each number. Functions call each other as they like; main has two parameters.
func Flat(number int) api.Program {
	c := newComposer(number)
	c.isFlat = true
	c.Datas = Program(declaredFlat).Datas
	for i := range 1 + c.below(3) {
		c.declare(c.signature("f" + strconv.Itoa(i)))
	}
	for i := range c.Funs {
		c.compose(i)
	}
	return c.whole()
}

func newComposer(number int) *composer {
	return &composer{chance: chance{uint64(number)*0x9e3779b97f4a7c15 + 1}, Program: Program(declared)}
}

// whole is the program with a main, which may call itself.
func (c *composer) whole() api.Program {
	whole := api.Type{}
	c.Main = c.declare(api.Fun{Name: "main", Params: []api.Type{whole, whole}, Result: whole})
	c.compose(c.Main)
	return c.Program
}

// declare adds a function without a body to the program, and gives its number.
func (c *composer) declare(f api.Fun) int {
	c.Funs = append(c.Funs, f)
	return len(c.Funs) - 1
}

// signature makes a function without a body.
func (c *composer) signature(name string) api.Fun {
	f := api.Fun{Name: name, Types: c.below(2)}
	if !c.isFlat {
		f.Regions, f.Effects = c.below(4), c.below(2)
	}
	s := &scene{room: room{isFlat: c.isFlat}, regions: upTo(f.Regions), live: upTo(f.Regions)}
	s.may.Vars = upTo(f.Effects)
	c.fun = &f
	for range 1 + c.below(3) {
		f.Params = append(f.Params, c.someType(s, 2))
	}
	f.Result = c.someType(s, 1)
	f.Touch = api.Effect{Regions: c.most(s.live), Vars: c.most(s.may.Vars)}
	return f
}

func upTo(n int) []int {
	var out []int
	for i := range n {
		out = append(out, i)
	}
	return out
}

// most chooses most of a list.
func (c *composer) most(list []int) []int {
	return slices.DeleteFunc(slices.Clone(list), func(int) bool { return c.below(5) == 0 })
}

// some chooses a few of a list.
func (c *composer) some(list []int) []int {
	return slices.DeleteFunc(slices.Clone(list), func(int) bool { return c.below(3) > 0 })
}

// compose makes the body of a function.
func (c *composer) compose(number int) {
	c.fun = &c.Funs[number]
	f := c.fun
	c.next, c.local, c.left, c.inside = len(f.Params), f.Regions, 30, 0
	s := &scene{room: room{isFlat: c.isFlat, may: f.Touch}, regions: upTo(f.Regions), live: slices.Clone(f.Touch.Regions), mine: slices.Clone(f.Touch.Regions)}
	for i, t := range f.Params {
		s.scope = append(s.scope, variable{i, t})
	}
	body := c.block(s, f.Result)
	f.Body = body
}

// touchable are the regions that a step may touch.
func (s *scene) touchable() []int {
	out := slices.Clone(s.live)
	if s.isLambda {
		out = append(out, s.may.Regions...)
	}
	slices.Sort(out)
	return slices.Compact(out)
}

func (s *scene) canTouch(regions ...int) bool {
	all := s.touchable()
	return s.isFlat || !slices.ContainsFunc(regions, func(r int) bool { return !slices.Contains(all, r) })
}

// canTouchAll tells whether an effect may be touched.
func (s *scene) canTouchAll(e api.Effect) bool {
	return s.canTouch(e.Regions...) && !slices.ContainsFunc(e.Vars, func(v int) bool { return !slices.Contains(s.may.Vars, v) })
}

// inner is the scene of a block of a step, which has to consume some regions.
func (s *scene) inner(mine []int) *scene {
	return &scene{room: s.room, scope: slices.Clone(s.scope), regions: slices.Clone(s.regions), live: slices.Clone(s.live), mine: slices.Clone(mine)}
}

// consume takes regions away.
func (s *scene) consume(regions ...int) {
	gone := func(r int) bool { return slices.Contains(regions, r) }
	s.live = slices.DeleteFunc(s.live, gone)
	s.mine = slices.DeleteFunc(s.mine, gone)
}

// someEffect is an effect that may be touched.
func (c *composer) someEffect(s *scene) api.Effect {
	return api.Effect{Regions: c.some(s.touchable()), Vars: c.some(s.may.Vars)}
}

// someType is a type, in regions that may be touched.
func (c *composer) someType(s *scene, depth int) api.Type {
	all := s.touchable()
	if s.isFlat {
		all = []int{0}
	}
	if depth == 0 || len(all) == 0 || c.below(3) == 0 {
		if c.fun.Types > 0 && c.below(4) == 0 {
			return api.Type{Kind: api.TVar, N: c.below(c.fun.Types)}
		}
		if c.below(6) == 0 {
			return api.Type{Kind: api.TBool + c.below(2)}
		}
		return api.Type{}
	}
	t := api.Type{Region: all[c.below(len(all))]}
	part := func() api.Type { return c.someType(s, depth-1) }
	kind := c.below(7)
	if s.isFlat && c.below(2) == 0 {
		kind = 3
	}
	switch kind {
	case 0, 1:
		t.Kind, t.Args = api.TTuple, []api.Type{part(), part()}
	case 2:
		t.Kind, t.Args, t.Effect = api.TData, []api.Type{part()}, c.someEffect(s)
	case 3:
		t.Kind, t.Args, t.Effect = api.TArrow, []api.Type{part(), part()}, c.someEffect(s)
	case 4:
		t.Kind, t.Args = api.TRef, []api.Type{part()}
	case 5:
		t.Kind, t.Args = api.TArray, []api.Type{part()}
	case 6:
		t.Kind, t.N, t.Effect = api.TData, 1+c.below(2), c.someEffect(s)
	}
	return t
}

// block makes a block with a value of a type. It ends what it has to consume.
func (c *composer) block(s *scene, want api.Type, binds ...api.Type) api.Block {
	var b api.Block
	for _, t := range binds {
		s.scope = append(s.scope, variable{c.next, t})
		b.Bind = append(b.Bind, c.next)
		c.next++
	}
	c.inside++
	for range 1 + c.below(6) {
		if c.left > 0 {
			c.act(s)
		}
	}
	b.Value = c.need(s, want)
	for len(s.mine) > 0 {
		c.end(s)
	}
	c.inside--
	b.Steps = s.steps
	return b
}

// end gives back one of the regions that have to be consumed.
func (c *composer) end(s *scene) {
	r := s.mine[c.below(len(s.mine))]
	s.steps = append(s.steps, api.Step{Op: api.OEnd, Out: -1, Region: r})
	s.consume(r)
}

// begin begins a region.
func (c *composer) begin(s *scene) {
	r := c.local
	c.local++
	s.steps = append(s.steps, api.Step{Op: api.ONew, Out: -1, Region: r})
	s.regions, s.live, s.mine = append(s.regions, r), append(s.live, r), append(s.mine, r)
}

// add adds a step with a new variable, and gives that.
func (c *composer) add(s *scene, step api.Step) int {
	step.Out = c.next
	c.next++
	c.left--
	s.steps = append(s.steps, step)
	s.scope = append(s.scope, variable{step.Out, step.Type})
	return step.Out
}
