package machine

import (
	"heriot/api"
	"heriot/store"
)

// mostWords is how many words the store's cells have at most.
const mostWords = api.MaxArray + 1

// memory has the cells of a run, in a store whose regions are the run's instances.
type memory struct {
	store     *store.Store
	instances []instance
}

// instance is what the machine knows of an instance; of one that has ended it knows no cells any more.
type instance struct {
	cells    []cell
	hasEnded bool
	isShared bool // more than one handle has owned it at once
}

// begin begins an instance, and gives its number.
func (m *memory) begin() int {
	m.instances = append(m.instances, instance{})
	return m.store.Open()
}

// end ends an instance, and gives how many words its cells had.
func (m *memory) end(number int) int {
	held := m.store.Words()
	m.store.Close(number)
	own := &m.instances[number]
	own.cells, own.hasEnded = nil, true
	return held - m.store.Words()
}

// lay lays a cell with some words into its instance.
func (m *memory) lay(c cell, words []value) value {
	for begin := 0; begin < len(words); begin += mostWords {
		address, _ := m.store.Alloc(c.instance, min(len(words)-begin, mostWords))
		c.parts = append(c.parts, address)
	}
	c.references = make([]bool, len(words))
	for i, v := range words {
		m.set(&c, i, v)
	}
	own := &m.instances[c.instance]
	own.cells = append(own.cells, c)
	return referenceTo(c.instance, len(own.cells)-1)
}

// find is the cell of a reference, if its instance has not ended.
func (m *memory) find(v value) (*cell, bool) {
	own := &m.instances[v.instance()]
	if own.hasEnded {
		return nil, false
	}
	return &own.cells[v.cell()], true
}

func (m *memory) set(c *cell, word int, v value) {
	c.references[word] = v.kind == reference
	m.store.Set(c.instance, c.parts[word/mostWords], word%mostWords, v.number)
}

func (m *memory) get(c *cell, word int) value {
	n, _ := m.store.Get(c.instance, c.parts[word/mostWords], word%mostWords)
	if c.references[word] {
		return value{reference, n}
	}
	return intOf(n)
}

// fields are the words of a cell from one on.
func (m *memory) fields(c *cell, from int) []value {
	var out []value
	for word := from; word < len(c.references); word++ {
		out = append(out, m.get(c, word))
	}
	return out
}
