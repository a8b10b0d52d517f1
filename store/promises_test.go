package store_test

import (
	"math/rand"
	"testing"

	"heriot/api"
	"heriot/store"
)

const rounds = 100

// habit is what a sequence of calls does often.
type habit struct {
	regions  int // how many are open at most, about
	big      int // of a hundred cells so many are of more than 16 words
	greatest int // words of a cell
	wrong    int // of a hundred calls so many have wrong numbers
}

// player makes calls by chance, and holds the answers of a store against those of the judge.
type player struct {
	*testing.T
	*rand.Rand
	habit
	seed  int
	store *store.Store
	judge *judge
	most  int  // the greatest number of pages so far
	isBig bool // a cell of more than 16 words was made
	seen  map[api.Errno]int
}

func play(t *testing.T, seed int, h habit) *player {
	return &player{T: t, Rand: rand.New(rand.NewSource(int64(seed))), habit: h, seed: seed, store: store.New(), judge: &judge{}, seen: map[api.Errno]int{}}
}

// region is the number of a region that is open, if there is one.
func (p *player) region() int {
	count := len(p.judge.regions)
	if count == 0 || p.Intn(100) < p.wrong {
		return p.number()
	}
	number := p.Intn(count)
	for k := range count {
		if region := (number + k) % count; p.judge.isOpen(region) {
			return region
		}
	}
	return number
}

// number is one that may be anything.
func (p *player) number() int {
	if p.Intn(2) == 0 {
		return p.Intn(40) - 4
	}
	return odd[p.Intn(len(odd))]
}

func (p *player) size() int {
	if p.Intn(100) < p.wrong {
		return p.number()
	}
	if p.Intn(100) < p.big {
		return 17 + p.Intn(p.greatest-16)
	}
	return 1 + p.Intn(1+p.Intn(16))
}

// field is a field of a cell of a region, as long as nothing is wrong.
func (p *player) field() (region, address, field int) {
	region = p.region()
	if !p.judge.isOpen(region) || len(p.judge.regions[region].cells) == 0 {
		return region, p.number(), p.number()
	}
	cells := p.judge.regions[region].cells
	c := cells[p.Intn(len(cells))]
	if p.Intn(100) < p.wrong {
		return region, c.address + p.Intn(5) - 2, 0
	}
	if p.Intn(100) < p.wrong {
		return region, c.address, p.number()
	}
	return region, c.address, p.Intn(len(c.fields))
}

// step makes one call.
func (p *player) step() {
	switch k := p.Intn(100); {
	case k < 8:
		if p.judge.openRegions() < p.regions {
			p.equal(p.store.Open(), p.judge.Open(), "Open")
		}
	case k < 12:
		region := p.region()
		p.answer(p.store.Close(region), p.judge.Close(region), "Close")
	case k < 50:
		region, words := p.region(), p.size()
		got, gotE := p.store.Alloc(region, words)
		want, wantE := p.judge.Alloc(region, words)
		p.answer(gotE, wantE, "Alloc")
		p.equal(got, want, "Alloc")
		p.isBig = p.isBig || gotE == api.OK && words > 16
	case k < 75:
		region, address, field := p.field()
		value := int64(p.Uint64())
		p.answer(p.store.Set(region, address, field, value), p.judge.Set(region, address, field, value), "Set")
	default:
		region, address, field := p.field()
		got, gotE := p.store.Get(region, address, field)
		want, wantE := p.judge.Get(region, address, field)
		p.answer(gotE, wantE, "Get")
		p.equal(int(got), int(want), "Get")
	}
	p.equal(p.store.Words(), p.judge.Words(), "Words")
	p.equal(p.store.Pages(), p.judge.Pages(), "Pages")
	p.equal(p.store.Free(), p.judge.Free(), "Free")
	p.most = max(p.most, p.store.Pages())
}

func (j *judge) openRegions() int {
	count := 0
	for _, r := range j.regions {
		if r.open {
			count++
		}
	}
	return count
}

func (p *player) equal(got, want int, what string) {
	p.Helper()
	if got != want {
		p.Fatalf("%d: %s: %d, not %d", p.seed, what, got, want)
	}
}

func (p *player) answer(got, want api.Errno, what string) {
	p.Helper()
	p.seen[got]++
	if got != want {
		p.Fatalf("%d: %s: error %d, not %d", p.seed, what, got, want)
	}
}

// all looks at all fields of all cells.
func (p *player) all() {
	for region, r := range p.judge.regions {
		for _, c := range r.cells {
			for field, want := range c.fields {
				if got, e := p.store.Get(region, c.address, field); got != want || e != api.OK {
					p.Fatalf("%d: field %d of cell %d in region %d: %d and error %d, not %d", p.seed, field, c.address, region, got, e, want)
				}
			}
		}
	}
}

func habits() []habit {
	return []habit{
		{regions: 6, big: 0, greatest: 16, wrong: 0},
		{regions: 6, big: 0, greatest: 16, wrong: 3},
		{regions: 3, big: 5, greatest: 40, wrong: 3},
		{regions: 12, big: 30, greatest: 80, wrong: 1},
		{regions: 30, big: 10, greatest: 200, wrong: 2},
		{regions: 5, big: 60, greatest: 4097, wrong: 1},
		{regions: 4, big: 20, greatest: 100, wrong: 30},
	}
}

// TestAnswers: P7.1 and P7.2, for calls by chance.
func TestAnswers(t *testing.T) {
	t.Parallel()
	seen := map[api.Errno]int{}
	for _, h := range habits() {
		for seed := range rounds / 2 {
			p := play(t, seed, h)
			for range 50 + p.Intn(500) {
				p.step()
			}
			p.all()
			for e, count := range p.seen {
				seen[e] += count
			}
		}
	}
	for _, e := range []api.Errno{api.OK, api.ErrRegion, api.ErrAddress, api.ErrField, api.ErrSize} {
		if seen[e] < 5*rounds {
			t.Errorf("too few cases: %v", seen)
		}
	}
}

// TestApart: P7.2: what is done in other regions, and in the same one, does not change a field; and a region's number that was given back is refused for ever.
func TestApart(t *testing.T) {
	t.Parallel()
	for _, h := range habits() {
		for seed := range rounds / 10 {
			p := play(t, seed, h)
			for range 300 {
				p.step()
			}
			p.all()
			for region := range p.judge.regions {
				p.close(region)
				p.all()
			}
			counts(t, p.store, 0, 0, p.judge.Free())
			for region := range p.judge.regions {
				closes(t, p.store, region, api.ErrRegion)
				refuses(t, p.store, region, 1, api.ErrRegion)
				hasNot(t, p.store, region, 0, 0, api.ErrRegion)
			}
			opens(t, p.store, len(p.judge.regions))
		}
	}
}

// close closes a region in the store and in the judge.
func (p *player) close(region int) {
	p.answer(p.store.Close(region), p.judge.Close(region), "Close")
}

// TestRoom: P7.3: how many pages there are at most for so many words.
func TestRoom(t *testing.T) {
	t.Parallel()
	small := 0
	for _, h := range habits() {
		for seed := range rounds / 4 {
			p := play(t, rounds+seed, h)
			for range 400 {
				p.step()
				p.room()
				if !p.isBig {
					p.equal(p.store.Pages()+p.store.Free(), p.most, "Pages and Free together")
				}
			}
			if !p.isBig && p.store.Free() > 0 {
				small++
			}
		}
	}
	if small < rounds/10 {
		t.Errorf("too few cases: %d", small)
	}
}

// room looks at how many pages each region has, and whether these are all pages of the store.
func (p *player) room() {
	pages := 0
	for region, r := range p.judge.regions {
		small, most := 0, 0
		for _, c := range r.cells {
			if n := len(c.fields); n > 16 {
				most += (n + 15) / 16
			} else {
				small += n
			}
		}
		most += 2*small/16 + 1
		has := p.judge.pagesOf(region)
		if has > most {
			p.Fatalf("%d: region %d has %d pages for cells that need at most %d", p.seed, region, has, most)
		}
		pages += has
	}
	p.equal(p.store.Pages(), pages, "Pages")
}

// TestRoomAlone: P7.3 for one region at a time, by the store's own numbers: cells of 9 words are the worst case, each of which has a page to itself.
func TestRoomAlone(t *testing.T) {
	for words := 1; words <= 16; words++ {
		s := made(1)
		for cells := 1; cells <= 100; cells++ {
			if _, e := s.Alloc(0, words); e != api.OK {
				t.Fatalf("Alloc: error %d", e)
			}
			if s.Words() != cells*words || s.Pages() > 2*s.Words()/16+1 || s.Free() != 0 {
				t.Fatalf("%d cells of %d words: %d words, %d pages, %d free", cells, words, s.Words(), s.Pages(), s.Free())
			}
		}
	}
}
