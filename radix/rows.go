package radix

import (
	"iter"

	"mallow/api"
	"mallow/chunk"
	"mallow/pack"
)

// row is the i-th row at a depth, below one that has such a rest.
func (t *Tree) row(depth int, i uint64, rest state) summary {
	if r, ok := t.levels[depth][i]; ok {
		return r
	}
	return even(depth, rest)
}

// keep sets the i-th row at a depth, below one that has such a rest.
func (t *Tree) keep(depth int, i uint64, rest state, r summary) {
	if r == even(depth, rest) {
		delete(t.levels[depth], i)
		return
	}
	t.levels[depth][i] = r
}

// top is the row of all pages.
func (t *Tree) top() summary {
	return t.row(0, 0, outside)
}

// at is the i-th row at a depth, whatever the rows above it are.
func (t *Tree) at(depth int, i uint64) summary {
	r := t.top()
	for d := 1; d <= depth; d++ {
		r = t.row(d, i>>(shifts[d]-shifts[depth]), r.rest)
	}
	return r
}

// below goes through the rows right below the i-th one at a depth, which has such
// a rest: their numbers, and what is told of them.
func (t *Tree) below(depth int, i uint64, rest state) iter.Seq2[uint64, summary] {
	return func(yield func(k uint64, r summary) bool) {
		for k := range spanOf(depth, i).rows(depth + 1) {
			if !yield(k, t.row(depth+1, k, rest)) {
				return
			}
		}
	}
}

// count is the tally of the n pages from one on; it counts none if they go beyond
// all pages that there are.
func (t *Tree) count(page, n uint64) tally {
	// A difference, as the sum of both could wrap round.
	if n == 0 || n > api.PageLimit || page > api.PageLimit-n {
		return tally{}
	}
	return t.countIn(0, 0, t.top(), span{page, page + n})
}

// countIn is the tally of the pages of a span that lie in the i-th row at a depth.
func (t *Tree) countIn(depth int, i uint64, r summary, p span) tally {
	p = p.in(depth, i)
	if p.pages() == size(depth) {
		return r.tally
	}
	if s, ok := r.alike(size(depth)); ok {
		return tallyOf(s, p.pages())
	}
	if depth == chunkDepth {
		return tallyOfChunk(t.chunks[i], int(p.first%api.ChunkPages), int(p.pages()))
	}
	var all tally
	for k := range p.rows(depth + 1) {
		all = all.plus(t.countIn(depth+1, k, t.row(depth+1, k, r.rest), p))
	}
	return all
}

// set makes the n pages from one on all alike.
func (t *Tree) set(page, n uint64, s state) {
	t.keep(0, 0, outside, t.setIn(0, 0, t.top(), span{page, page + n}, s))
}

// setIn makes the pages of a span that lie in the i-th row at a depth all alike,
// and answers what the row is then.
func (t *Tree) setIn(depth int, i uint64, r summary, p span, s state) summary {
	p = p.in(depth, i)
	switch {
	case p.pages() == size(depth):
		r = even(depth, s)
	case depth == chunkDepth:
		r = t.setInChunk(i, r.rest, p, s)
	default:
		for k := range p.rows(depth + 1) {
			was := t.row(depth+1, k, r.rest)
			is := t.setIn(depth+1, k, was, p, s)
			t.keep(depth+1, k, r.rest, is)
			r.tally = r.less(was.tally).plus(is.tally)
		}
		r.sum = t.sumBelow(depth, i, r.rest)
	}
	if s, ok := r.alike(size(depth)); ok {
		t.forget(depth, i)
		return even(depth, s)
	}
	return r
}

// sumBelow is the sum of the rows right below the i-th one at a depth, which has
// such a rest.
func (t *Tree) sumBelow(depth int, i uint64, rest state) api.Sum {
	// Nobody asks for the sum of all pages, and its rows are too long for Merge.
	if depth == 0 {
		return api.Sum{}
	}
	sums := make([]api.Sum, 0, mostBelow)
	for _, b := range t.below(depth, i, rest) {
		sums = append(sums, b.sum)
	}
	sum, _ := pack.Merge(sums, int(size(depth+1)))
	return sum
}

// forget keeps nothing any more of what lies below the i-th row at a depth.
func (t *Tree) forget(depth int, i uint64) {
	if depth == chunkDepth {
		delete(t.chunks, i)
		return
	}
	for k := range spanOf(depth, i).rows(depth + 1) {
		// Below a row that is not kept nothing is.
		if _, ok := t.levels[depth+1][k]; ok {
			delete(t.levels[depth+1], k)
			t.forget(depth+1, k)
		}
	}
}

// setInChunk makes the pages of a span all alike in the i-th chunk, whose pages
// were all in a state if it is not kept.
func (t *Tree) setInChunk(i uint64, was state, p span, s state) summary {
	c := t.chunk(i, was)
	lay(c, int(p.first%api.ChunkPages), int(p.pages()), s)
	t.chunks[i] = c
	return summary{tally: tallyOfChunk(c, 0, api.ChunkPages), sum: c.Sum()}
}

// chunk is the i-th one, or a new one whose pages are all in a state, if it is
// not kept.
func (t *Tree) chunk(i uint64, s state) *chunk.Chunk {
	if c, ok := t.chunks[i]; ok {
		return c
	}
	c := chunk.New()
	lay(c, 0, api.ChunkPages, s)
	return c
}

// lay makes the n pages of a chunk from the i-th on all alike, if they are all
// used or all free.
func lay(c *chunk.Chunk, i, n int, s state) {
	// Only what is used can be given back. What is used already stays so.
	c.Take(i, n)
	switch s {
	case idle:
		c.Give(i, n)
	case released:
		c.Back(i, n)
	}
}

// tallyOfChunk is that of the n pages of a chunk from the i-th on.
func tallyOfChunk(c *chunk.Chunk, i, n int) tally {
	used, released := c.Rows()
	return tally{uint64(n), uint64(n - used.Count(i, n)), uint64(released.Count(i, n))}
}

// lastIdle is the highest chunk that has a page that is free and not released:
// its number, and a copy of it.
func (t *Tree) lastIdle() (uint64, chunk.Chunk, bool) {
	i, r := uint64(0), t.top()
	if r.free == r.released {
		return 0, chunk.Chunk{}, false
	}
	for depth := range chunkDepth {
		for k, b := range t.below(depth, i, r.rest) {
			if b.free > b.released {
				i, r = k, b
			}
		}
	}
	return i, *t.chunk(i, r.rest), true
}
