package store

import "heriot/api"

// page has the words of a page. Those of a page that waits are all 0, as those of a fresh one are.
type page [api.PageWords]int64

// stretch is some pages whose numbers follow each other.
type stretch struct{ first, count int }

// pages are the pages that are not fresh, by their numbers.
type pages struct {
	all     []page
	waiting waiting
}

// take gives the first stretch of so many pages that wait, or else one of fresh pages.
func (p *pages) take(count int) stretch {
	first, ok := p.waiting.find(count)
	if !ok {
		fresh := stretch{len(p.all), count}
		p.all = append(p.all, make([]page, count)...)
		return fresh
	}
	found := stretch{first, count}
	p.waiting.remove(found)
	return found
}

// giveBack lets pages wait.
func (p *pages) giveBack(s stretch) {
	for number := range s.count {
		clear(p.all[s.first+number][:])
	}
	p.waiting.add(s)
}

// words gives so many words of a cell from one of them on, as far as they lie in that one's page. Whoever has them can't reach a word of another cell.
func (p *pages) words(first, count int) []int64 {
	begin := first % api.PageWords
	end := min(begin+count, api.PageWords)
	return p.all[first/api.PageWords][begin:end:end]
}
