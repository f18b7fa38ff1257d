package masks

import (
	"math/bits"

	"mallow/api"
)

// Words are looked at by strips, each a number with a bit for each of its words,
// and kept by windows. Both begin at multiples of their words.
const (
	stripWords  = 64
	windowWords = 512
)

// form tells of words whether they are pointers.
type form interface {
	// strip has the bits of the strip that begins at a word.
	strip(at uint64) uint64
	// count is how many words from first on, ahead of end, are pointers.
	count(first, end uint64) uint64
}

// none is the form of words of which none is a pointer.
type none struct{}

func (none) strip(at uint64) uint64         { return 0 }
func (none) count(first, end uint64) uint64 { return 0 }

// inPlace is the form of one window whose words are known bit by bit.
type inPlace [windowWords / stripWords]uint64

func (p *inPlace) strip(at uint64) uint64 {
	return p[at%windowWords/stripWords]
}

func (p *inPlace) count(first, end uint64) uint64 {
	n := 0
	for at := stripOf(first); at < end; at += stripWords {
		n += bits.OnesCount64(p.strip(at) & within(at, first, end))
	}
	return uint64(n)
}

// things is the form of words where n things of a type stand, one behind the other;
// those ahead of the first and behind the last one are no pointers.
type things struct {
	first uint64
	of    mask
	n     uint64
}

// formOf is the form of n things of a type from a word on.
func formOf(first uint64, t api.Type, n uint64) form {
	of := maskOf(t.Mask)
	if n == 0 || of.pointers == 0 {
		return none{}
	}
	return &things{first, of, n}
}

func (s *things) end() uint64 {
	return s.first + s.n*s.of.words
}

func (s *things) strip(at uint64) uint64 {
	first, end := max(at, s.first), min(at+stripWords, s.end())
	strip := uint64(0)
	for word := first; word < end; word++ {
		if s.of.has((word - s.first) % s.of.words) {
			strip |= 1 << (word - at)
		}
	}
	return strip
}

func (s *things) count(first, end uint64) uint64 {
	return s.ahead(end) - s.ahead(first)
}

// ahead is how many words ahead of one are pointers.
func (s *things) ahead(word uint64) uint64 {
	n := min(max(word, s.first), s.end()) - s.first
	return n/s.of.words*s.of.pointers + s.of.ahead(n%s.of.words)
}

// mask is a type's, packed.
type mask struct {
	words    uint64
	pointers uint64
	strips   []uint64
}

func maskOf(list []bool) mask {
	m := mask{
		words:  uint64(len(list)),
		strips: make([]uint64, (len(list)+stripWords-1)/stripWords),
	}
	for i, is := range list {
		if is {
			m.strips[i/stripWords] |= 1 << (i % stripWords)
			m.pointers++
		}
	}
	return m
}

func (m *mask) has(i uint64) bool {
	return m.strips[i/stripWords]>>(i%stripWords)&1 == 1
}

// ahead is how many of the type's words ahead of its word i are pointers.
func (m *mask) ahead(i uint64) uint64 {
	n := 0
	for at := uint64(0); at < i; at += stripWords {
		n += bits.OnesCount64(m.strips[at/stripWords] & within(at, 0, i))
	}
	return uint64(n)
}

// within are the bits of the strip at a word that stand for words from first on,
// ahead of end.
func within(at, first, end uint64) uint64 {
	first, end = max(at, first), min(at+stripWords, end)
	if first >= end {
		return 0
	}
	return ^uint64(0) << (first - at) & (^uint64(0) >> (at + stripWords - end))
}

func stripOf(word uint64) uint64  { return word - word%stripWords }
func windowOf(word uint64) uint64 { return word - word%windowWords }

// windowUp is the first word of a window that is not below a word.
func windowUp(word uint64) uint64 { return windowOf(word + windowWords - 1) }
