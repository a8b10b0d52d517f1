package samples

import (
	"slices"
	"strconv"
	"strings"
)

// ops are the names of the machine's ops, in their order.
const ops = "load move make cell field write close apply call array at put len raise try untry print add sub mul div mod eq less branch switch jump new end return"

// coder writes the bytes of a notation. It panics at what it can't read: the texts are those of tests.
type coder struct {
	ops   []string
	words []string
	bytes []byte
}

// Bytes writes the bytes of objects and images, from a notation for tests:
//
//	HRO 0 0 [ ('main 1 3 1 [] [ [ (new 0) (cell 1 0 [0 0]) (end 0) (load 2 #-5) (return 2) ] ]) ] [ (3 'no) ] 1
//
// A number, an op and a mark are written as they are; # stands ahead of an int, ' ahead of a text; a list is written as the number of its elements and these; what is in parentheses is one element.
func Bytes(text string) []byte {
	for _, own := range strings.Split("( ) [ ]", " ") {
		text = strings.ReplaceAll(text, own, " "+own+" ")
	}
	c := &coder{ops: strings.Fields(ops), words: strings.Fields(text)}
	for len(c.words) > 0 {
		c.element()
	}
	return c.bytes
}

func (c *coder) next() string {
	word := c.words[0]
	c.words = c.words[1:]
	return word
}

// elements writes what stands ahead of a closing sign, and gives how many elements these are.
func (c *coder) elements(closing string) int {
	count := 0
	for c.words[0] != closing {
		c.element()
		count++
	}
	c.next()
	return count
}

func (c *coder) element() {
	word := c.next()
	switch word[0] {
	case '(':
		c.elements(")")
	case '[':
		inner := &coder{ops: c.ops, words: c.words}
		count := inner.elements("]")
		c.words = inner.words
		c.bytes = append(append(c.bytes, Number(uint64(count))...), inner.bytes...)
	case '\'':
		c.bytes = append(append(c.bytes, Number(uint64(len(word)-1))...), word[1:]...)
	case '#':
		n, err := strconv.ParseInt(word[1:], 10, 64)
		if err != nil {
			panic("no int: " + word)
		}
		c.bytes = append(c.bytes, Int(n)...)
	case 'H':
		c.bytes = append(append(c.bytes, word...), 1)
	default:
		c.word(word)
	}
}

func (c *coder) word(word string) {
	if op := slices.Index(c.ops, word); op >= 0 {
		c.bytes = append(c.bytes, byte(op))
		return
	}
	n, err := strconv.ParseUint(word, 10, 64)
	if err != nil {
		panic("no number: " + word)
	}
	c.bytes = append(c.bytes, Number(n)...)
}

// Number writes a number as the machine's chapter says it.
func Number(n uint64) []byte {
	if n < 128 {
		return []byte{byte(n)}
	}
	return append([]byte{byte(128 + n%128)}, Number(n/128)...)
}

// Int writes an int as the machine's chapter says it.
func Int(n int64) []byte {
	if n >= 0 {
		return Number(2 * uint64(n))
	}
	return Number(2*uint64(-(n+1)) + 1)
}
