package place

import (
	"heriot/api"
	"heriot/stack"
)

// holder is what has regions and effect variables of a function: an effect name, or what the steps of a function or of a lambda touch. It only gets more.
type holder struct {
	regions, variables         set
	toldRegions, toldVariables set // of these, what has been told to others
	waits                      bool
	into                       set    // the holders that have all that it has
	mentioned                  *block // the innermost block that has all steps at which the effect stands; nil if there are none
	room                       *room  // of what a function or a lambda touches
	isOwn                      bool   // it is an effect of the signature
	name                       int    // of an effect, the least one
}

// knowledge is what is known of the regions and the effects of a function: regions and effect names are numbered anew, those that are the same alike.
type knowledge struct {
	keys     []int // the least place of each region that has one; they rise
	regionAt []int // the region of each name
	origins  []origin
	foreign  map[origin]int // the regions that are names for origins; they have the numbers behind keys
	homes    []*block
	holders  []*holder
	holderAt []int // the holder of each effect name
	waiting  stack.Of[int]
}

// compact numbers the regions and the effect names, when it is known which are the same.
func (f *function) compact() {
	f.regionAt = make([]int, len(f.regions))
	for name := range f.regions {
		if root := f.regions.root(name); root < name {
			f.regionAt[name] = f.regionAt[root]
			continue
		}
		f.regionAt[name] = len(f.keys)
		f.keys = append(f.keys, name)
	}
	require(len(f.keys) <= maxRegions, api.ErrBig)
	f.homes = make([]*block, len(f.keys))
	f.foreign = map[origin]int{}
	f.holderAt = make([]int, len(f.effects))
	for name := range f.effects {
		if root := f.effects.root(name); root < name {
			f.holderAt[name] = f.holderAt[root]
			continue
		}
		f.holderAt[name] = f.hold(&holder{name: name, isOwn: name < f.own.effects})
	}
}

func (f *function) hold(h *holder) int {
	f.holders = append(f.holders, h)
	return len(f.holders) - 1
}

func (f *function) holderOf(t *dressed) *holder { return f.holders[f.holderAt[t.effect]] }

// tellLater says that a holder has something to tell.
func (f *function) tellLater(number int) {
	if h := f.holders[number]; !h.waits {
		h.waits = true
		f.waiting.Push(number)
	}
}

// give gives regions and effect variables to a holder.
func (f *function) give(to int, regions, variables set) {
	h := f.holders[to]
	hasMore := h.regions.addAll(regions)
	if h.variables.addAll(variables) || hasMore {
		f.tellLater(to)
	}
}

// include lets a holder have all that another one has.
func (f *function) include(from, to int) {
	if h := f.holders[from]; from != to && h.into.add(to) {
		f.give(to, h.toldRegions, h.toldVariables)
	}
}

// settle lets all holders tell what they have.
func (f *function) settle() {
	for len(f.waiting) > 0 {
		f.tell(f.waiting.Pop())
	}
}

// tell tells what is new in a holder to the holders that have all that it has, and to the homes of the regions.
func (f *function) tell(number int) {
	h := f.holders[number]
	h.waits = false
	regions, variables := h.regions.without(h.toldRegions), h.variables.without(h.toldVariables)
	h.toldRegions.addAll(regions)
	h.toldVariables.addAll(variables)
	if h.mentioned != nil {
		for r := range regions.all() {
			f.mention(r, h.mentioned)
		}
	}
	for to := range h.into.all() {
		f.give(to, regions, variables)
	}
	if h.isOwn {
		f.reportNews(h, regions, variables)
	}
	if h.room != nil {
		f.touch(h.room, regions, variables)
	}
}

// touch says that the steps of a function, or of a lambda, touch something. A lambda's effect has that, but for the regions that have their homes in the lambda.
func (f *function) touch(in *room, regions, variables set) {
	var outer set
	for r := range regions.all() {
		if !f.homes[r].isIn(in.block) {
			outer.add(r)
		}
	}
	if in.arrow != nil {
		f.give(f.holderAt[in.arrow.effect], outer, variables)
	} else {
		f.report(touched, f.formalsOf(outer), variables)
	}
}

// mention lets a block have a mention of a region: the region's home, or a block around it.
func (f *function) mention(r int, at *block) {
	old := f.homes[r]
	home := common(old, at)
	f.homes[r] = home
	if old == nil {
		return
	}
	for b := old; b != home; b = b.around {
		if b.room.block == b && f.holders[b.room.touched].regions.has(r) {
			f.touch(b.room, setOf(r), nil)
		}
	}
}

// isFormal tells whether a region is mentioned in Params or Result.
func (f *function) isFormal(r int) bool { return f.homes[r] == f.outside }

func (f *function) formalsOf(regions set) set {
	var out set
	for r := range regions.all() {
		if f.isFormal(r) {
			out.add(r)
		}
	}
	return out
}

// common is the innermost block that has two others, of which one may be none.
func common(a, b *block) *block {
	if a == nil {
		return b
	}
	for a != b {
		if a.depth >= b.depth {
			a = a.around
		} else {
			b = b.around
		}
	}
	return a
}

// isIn tells whether a block is another one or stands in it.
func (b *block) isIn(other *block) bool {
	for b.depth > other.depth {
		b = b.around
	}
	return b == other
}
