package radix

import (
	"iter"

	"mallow/api"
)

// Each depth has rows that are equally long: as many pages as 1 shifted by this.
// The first one has one row with all pages there are, the last one chunks. The
// depths above that of level 0 are there so that what is kept and gone through
// does not grow with how many pages one call names; pack's Merge takes no more
// than 64 rows, and none that is longer than 1<<21 pages.
var shifts = [...]int{35, 27, 21, 18, 15, 12, 9}

const (
	chunkDepth = len(shifts) - 1
	levelDepth = 3  // of the rows that are told as level 0
	mostBelow  = 64 // rows right below one, but for the first one
)

// size is how many pages a row at a depth has.
func size(depth int) uint64 {
	return 1 << shifts[depth]
}

// span is the pages from the first on and below end.
type span struct{ first, end uint64 }

// spanOf is all pages of the i-th row at a depth.
func spanOf(depth int, i uint64) span {
	return span{i << shifts[depth], (i + 1) << shifts[depth]}
}

func (p span) pages() uint64 {
	return p.end - p.first
}

// in is what of a span lies in the i-th row at a depth, if something does.
func (p span) in(depth int, i uint64) span {
	row := spanOf(depth, i)
	return span{max(p.first, row.first), min(p.end, row.end)}
}

// rows goes through the numbers of the rows at a depth in which pages of a span
// lie; it has some.
func (p span) rows(depth int) iter.Seq[uint64] {
	return func(yield func(i uint64) bool) {
		for i := p.first >> shifts[depth]; i<<shifts[depth] < p.end; i++ {
			if !yield(i) {
				return
			}
		}
	}
}

// state is what a page is.
type state int

const (
	outside  state = iota // of all chunks that are in use
	used                  // and so not free
	idle                  // free, and not released
	released              // and so free
)

// tally is how many pages chunks that are in use have, how many of these are
// free, and how many released.
type tally struct{ pages, free, released uint64 }

// tallyOf is that of n pages that are all alike.
func tallyOf(s state, n uint64) tally {
	switch s {
	case used:
		return tally{pages: n}
	case idle:
		return tally{pages: n, free: n}
	case released:
		return tally{pages: n, free: n, released: n}
	}
	return tally{}
}

// plus is that of the pages of both.
func (a tally) plus(b tally) tally {
	return tally{a.pages + b.pages, a.free + b.free, a.released + b.released}
}

// less is that of the pages of one without those of another, which are among
// them.
func (a tally) less(b tally) tally {
	return tally{a.pages - b.pages, a.free - b.free, a.released - b.released}
}

// alike tells what n pages that have this tally all are, if they are alike.
func (a tally) alike(n uint64) (state, bool) {
	for s := outside; s <= released; s++ {
		if a == tallyOf(s, n) {
			return s, true
		}
	}
	return outside, false
}

// summary is what is told of a row. Of the rows right below it those are not kept
// whose pages are all in the state of the rest.
type summary struct {
	tally
	sum  api.Sum
	rest state
}

// even is the summary of a row whose pages are all alike.
func even(depth int, s state) summary {
	r := summary{tally: tallyOf(s, size(depth)), rest: s}
	n := int(r.free)
	r.sum = api.Sum{Start: n, Max: n, End: n}
	return r
}
