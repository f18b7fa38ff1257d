package pcache

import (
	"fmt"
	"maps"
	"slices"
	"testing"

	"mallow/api"
	"mallow/radix"
)

// Ways: one word of 64 bits says which pages there are.
var _ uint64 = Cache{}.has

var _ interface {
	Fill(*radix.Tree) api.Errno
	Alloc(int) (uint64, int, api.Errno)
	Flush(*radix.Tree)
	Tell() (uint64, uint64, uint64)
	Empty() bool
} = New()

// 10.1 to 10.3: the chapter's example.
func TestExample(t *testing.T) {
	r := radix.New()
	r.Grow(1, 1)
	r.Take(512, 1)
	r.Take(514, 1)
	c := New()
	if e := c.Fill(r); e != api.OK {
		t.Error("Fill: ", e)
	}
	if b, has, released := c.Tell(); b != 512 || has != 0xfffffffffffffffa || released != 0xfffffffffffffffa {
		t.Errorf("Tell: %d, %x, %x", b, has, released)
	}
	if p, n, e := c.Alloc(2); p != 515 || n != 2 || e != api.OK {
		t.Error("Alloc(2): ", p, n, e)
	}
	if p, n, e := c.Alloc(1); p != 513 || n != 1 || e != api.OK {
		t.Error("Alloc(1): ", p, n, e)
	}
	if e := c.Fill(r); e != api.ErrState {
		t.Error("Fill again: ", e)
	}
	if p, n, e := c.Alloc(62); p != 0 || n != 0 || e != api.ErrFull {
		t.Error("Alloc(62): ", p, n, e)
	}
	if b, has, released := c.Tell(); b != 512 || has != 0xffffffffffffffe0 || released != has {
		t.Errorf("Tell behind it: %d, %x, %x", b, has, released)
	}
}

// 10.1, 10.3, 10.4: a cache has none at first; a number that is none is told
// first, whatever it has (R2); to flush it changes nothing.
func TestNew(t *testing.T) {
	m := newModel(1, 0, 2)
	m.set(1024, 1024+100, idle)
	r, c := m.tree(), New()
	check(t, "new", r, m, c)
	for _, n := range lengths() {
		checkAlloc(t, "new", r, m, 0, n, c)
	}
	checkFlush(t, "new", r, m, 0, c)
	checkFlush(t, "new", radix.New(), newModel(1), 0, c)
}

// 10.2: trees without a free page: without a chunk, and with chunks all of whose
// pages are used; ErrState stands ahead of ErrFull (R2).
func TestFillOfNone(t *testing.T) {
	for _, m := range []*model{newModel(1), newModel(1, 0), newModel(1, 1, 2), newModel(1, 0, allChunks-1)} {
		for p := range m.pages {
			m.pages[p] = used
		}
		r, c := m.tree(), New()
		for range 2 {
			checkFill(t, "no free page", r, m, 0, c)
		}
		checkAlloc(t, "no free page", r, m, 0, 1, c)
		checkFlush(t, "no free page", r, m, 0, c)
	}
	m := newModel(1, 3)
	m.set(3*512, 4*512, used)
	m.pages[3*512+100] = idle
	r, c := m.tree(), New()
	for range 3 {
		checkFill(t, "one free page", r, m, 0, c)
	}
}

// 10.2: free pages in the second chunk alone, across a gap, and at the end of one
// chunk and the begin of the next one: the block is that of the first one.
func TestFillOfLater(t *testing.T) {
	for _, chunks := range [][]uint64{{0, 1}, {1, 3}, {0, allChunks - 1}, {allChunks - 2, allChunks - 1}} {
		for _, at := range []uint64{0, 63, 64, 300, 448, 511} {
			for _, k := range []kind{idle, back} {
				m := newModel(1, chunks...)
				m.set(chunks[0]*512, chunks[0]*512+512, used)
				m.set(chunks[1]*512, chunks[1]*512+at, used)
				m.pages[chunks[1]*512+at] = k
				name := fmt.Sprint(chunks, " from ", at, " of the second on")
				r, c := m.tree(), New()
				checkFill(t, name, r, m, 0, c)
				checkFlush(t, name, r, m, 0, c)
			}
		}
	}
	m := newModel(1, 1, 2)
	m.set(512, 1022, used)
	r, c := m.tree(), New()
	for range 3 {
		checkFill(t, "two chunks", r, m, 0, c)
		checkAlloc(t, "two chunks", r, m, 0, 3, c)
		checkAlloc(t, "two chunks", r, m, 0, 2, c)
	}
}

// 10.1 to 10.5: blocks of many kinds at many places: what Fill takes, that a
// cache with pages is not filled, that Flush leaves the tree as it was, each
// length of Alloc, and Flush of what is left then.
func TestBlocks(t *testing.T) {
	for name, b := range blocks() {
		for i, first := range places() {
			behind := []kind{used, idle, back}[i%3]
			m := newModel(1, first/512)
			m.lay(first, b, behind)
			testBlock(t, fmt.Sprint(name, " at ", first, " ahead of ", behind), m)
		}
	}
}

func testBlock(t *testing.T, name string, m *model) {
	t.Helper()
	was := m.clone()
	r, c := m.tree(), New()
	for range 2 {
		checkFill(t, name, r, m, 0, c)
		checkFill(t, name+", again", r, m, 0, c)
		checkFlush(t, name, r, m, 0, c)
		if !maps.Equal(was.pages, m.pages) {
			t.Fatalf("%s: Flush behind Fill leaves another tree", name)
		}
	}
	checkFill(t, name, r, m, 0, c)
	full := *c
	filled := m.clone()
	for _, n := range lengths() {
		m, c := filled.clone(), full
		checkCache(t, name, &c, m, 0)
		for checkAllocOnly(t, fmt.Sprint(name, ", Alloc(", n, ")"), m, &c, n) {
		}
	}
	for _, n := range []int{0, 2, 64, 65, 5, 1} {
		checkAlloc(t, name, r, m, 0, n, c)
		checkFill(t, name, r, m, 0, c)
	}
	checkFlush(t, name, r, m, 0, c)
}

// checkAllocOnly asks a cache alone, of which no tree is looked at, and tells
// whether it gave something.
func checkAllocOnly(t *testing.T, name string, m *model, c *Cache, n int) bool {
	t.Helper()
	want, were, e := m.alloc(0, n)
	if p, k, code := c.Alloc(n); p != want || k != were || code != e {
		t.Fatalf("%s: %d, %d, %d; want %d, %d, %d", name, p, k, code, want, were, e)
	}
	checkCache(t, name, c, m, 0)
	return e == api.OK
}

// 10.3: rows of each length, at each place: one page short, just long enough, and
// longer; alone, and behind one that is one page short.
func TestRows(t *testing.T) {
	for n := 1; n <= 64; n++ {
		for at := 0; at+n <= 64; at++ {
			row := blockOf(func(i int) kind { return pick(i >= at && i < at+n, pick(i%3 == 0, back, idle), used) })
			checkRow(t, fmt.Sprint(n, " at ", at), row, n-1, n, n+1)
			if at < n || n == 1 {
				continue
			}
			for i := range n - 1 {
				row[i] = pick(i%2 == 0, back, idle)
			}
			checkRow(t, fmt.Sprint(n-1, " at 0, ", n, " at ", at), row, n-1, n, n+1)
		}
	}
}

func checkRow(t *testing.T, name string, b block, lengths ...int) {
	t.Helper()
	for _, n := range lengths {
		m, c := cacheOf(448, b)
		for checkAllocOnly(t, fmt.Sprint(name, ": Alloc(", n, ")"), m, c, n) {
		}
	}
}

// cacheOf has the free pages of a block, without a tree that has been asked.
func cacheOf(first uint64, b block) (*model, *Cache) {
	m := newModel(1)
	for i, k := range b {
		if isFree(k) {
			m.caches[0][first+uint64(i)] = k
		}
	}
	block, has, released := m.tell(0)
	return m, &Cache{block, has, released}
}

// 10.3: a row of which some pages are released and others not tells how many of
// its own are; what stays tells the others.
func TestMixedRow(t *testing.T) {
	m := newModel(1, 1)
	m.set(512, 512+10, used)
	m.set(512+10, 512+13, idle)
	m.set(512+20, 512+30, used)
	m.set(512+35, 512+40, idle)
	r, c := m.tree(), New()
	checkFill(t, "mixed", r, m, 0, c)
	for _, x := range []struct {
		n    int
		page uint64
		back int
	}{{11, 512 + 30, 6}, {5, 512 + 10, 2}, {2, 512 + 15, 2}, {6, 512 + 41, 6}, {3, 512 + 17, 3}} {
		if p, n, e := c.Alloc(x.n); p != x.page || n != x.back || e != api.OK {
			t.Errorf("Alloc(%d): %d, %d, %d; want %d, %d", x.n, p, n, e, x.page, x.back)
		}
		m.alloc(0, x.n)
		check(t, "mixed", r, m, c)
	}
}

// 10.2, 10.3: a cache that gave all its pages is filled with the next block, one
// that flushed them with the same again.
func TestFillAgain(t *testing.T) {
	m := newModel(1, 0, 1)
	r, c := m.tree(), New()
	for _, n := range []int{64, 32, 1, 21, 8} {
		name := fmt.Sprint("by ", n)
		checkFill(t, name, r, m, 0, c)
		for checkAlloc(t, name, r, m, 0, n, c) == api.OK {
		}
		for checkAlloc(t, name, r, m, 0, 1, c) == api.OK {
		}
		checkFill(t, name+", behind the last page", r, m, 0, c)
		first, _, _ := c.Tell()
		checkFlush(t, name, r, m, 0, c)
		checkFill(t, name+", behind Flush", r, m, 0, c)
		if again, _, _ := c.Tell(); again != first {
			t.Fatalf("%s: Fill behind Flush: the block is %d, was %d", name, again, first)
		}
		checkFlush(t, name, r, m, 0, c)
	}
}

// 10.2 to 10.5: two caches of one tree: neither gets what the other has, and the
// first of them to flush gives back only its own (R4).
func TestTwoCaches(t *testing.T) {
	m := newModel(2, 1)
	m.set(512, 600, idle)
	r, a, b := m.tree(), New(), New()
	checkFill(t, "first", r, m, 0, a, b)
	checkFill(t, "second", r, m, 1, a, b)
	checkAlloc(t, "first", r, m, 0, 10, a, b)
	checkAlloc(t, "second", r, m, 1, 40, a, b)
	checkFlush(t, "first", r, m, 0, a, b)
	checkFill(t, "first, of what it gave back", r, m, 0, a, b)
	checkFlush(t, "second", r, m, 1, a, b)
	checkFill(t, "second, of what it gave back", r, m, 1, a, b)
	checkAlloc(t, "second", r, m, 1, 24, a, b)
	checkFill(t, "second, of the third block", r, m, 1, a, b)
	checkFlush(t, "first", r, m, 0, a, b)
	checkFlush(t, "second", r, m, 1, a, b)
}

// 10.4: pages that the tree does not take, because somebody gave them back
// already, or because it does not have them, keep no others back; the cache has
// none then.
func TestFlushRefused(t *testing.T) {
	for at := range uint64(64) {
		m := newModel(1, 1)
		m.set(512+20, 512+40, idle)
		r, c := m.tree(), New()
		c.Fill(r)
		m.fill(0)
		r.Give(512+at, 1)
		m.pages[512+at] = idle
		m.flush(0)
		c.Flush(r)
		check(t, fmt.Sprint("given back: ", at), r, m, c)
	}
	for _, m := range []*model{newModel(1), newModel(1, 2), newModel(1, 1)} {
		if m.pages[512] != none {
			m.set(512+5, 512+8, used)
		}
		r, c := m.tree(), New()
		c.Fill(newModel(1, 1).tree())
		for p := range uint64(64) {
			m.caches[0][512+p] = back
		}
		checkFlush(t, "another tree", r, m, 0, c)
	}
}

// R4: caches of two trees that have the same pages don't see one another.
func TestTwoTrees(t *testing.T) {
	m, o := newModel(1, 1), newModel(1, 1)
	o.set(512, 530, idle)
	r, s, c, d := m.tree(), o.tree(), New(), New()
	checkFill(t, "one", r, m, 0, c)
	checkFill(t, "other", s, o, 0, d)
	checkAlloc(t, "one", r, m, 0, 30, c)
	checkCache(t, "other", d, o, 0)
	checkFlush(t, "one", r, m, 0, c)
	check(t, "other", s, o, d)
	checkAlloc(t, "other", s, o, 0, 64, d)
	check(t, "one", r, m, c)
}

// 10.1 to 10.5: long work by chance: three caches of one tree, filled, asked and
// flushed in turns, and what the tree itself does in between.
func TestByChance(t *testing.T) {
	for i, chunks := range [][]uint64{{0}, {1, 3}, {allChunks - 2, allChunks - 1}, {7}} {
		m := newModel(3, chunks...)
		w := worker{m, m.tree(), []*Cache{New(), New(), New()}, chance(uint64(i))}
		for range 700 {
			w.step(t)
		}
	}
}

type worker struct {
	m      *model
	r      *radix.Tree
	caches []*Cache
	next   func(n uint64) uint64
}

// step does one call by chance.
func (w *worker) step(t *testing.T) {
	t.Helper()
	i := int(w.next(3))
	switch w.next(8) {
	case 0, 1:
		checkFill(t, "by chance", w.r, w.m, i, w.caches...)
	case 2, 3, 4:
		checkAlloc(t, "by chance", w.r, w.m, i, int(w.next(1+w.next(66))), w.caches...)
	case 5:
		if w.next(3) == 0 {
			checkFlush(t, "by chance", w.r, w.m, i, w.caches...)
		}
	case 6:
		w.returnPages()
		check(t, "by chance, given back", w.r, w.m, w.caches...)
	case 7:
		w.ofTree()
		check(t, "by chance, of the tree", w.r, w.m, w.caches...)
	}
}

// returnPages gives some of the pages that somebody got back to the tree.
func (w *worker) returnPages() {
	for _, p := range slices.Sorted(maps.Keys(w.m.got)) {
		switch w.next(3) {
		case 0:
			w.r.Give(p, 1)
			w.m.pages[p] = idle
			delete(w.m.got, p)
		case 1:
			w.r.Back(p, 1)
			w.m.pages[p] = back
			delete(w.m.got, p)
		}
	}
}

// ofTree has the tree scavenge, or hand out pages itself.
func (w *worker) ofTree() {
	if w.next(2) == 0 {
		p, n := w.r.Scavenge(1 + w.next(64))
		w.m.set(p, p+n, back)
		return
	}
	n := 1 + w.next(90)
	if p, _, e := w.r.Alloc(n); e == api.OK {
		for q := p; q < p+n; q++ {
			w.m.got[q] = w.m.pages[q]
			w.m.pages[q] = used
		}
	}
}

// Ways: the first row of set bits is found by halving, as one by one it is.
func TestFind(t *testing.T) {
	words := []uint64{0, 1, 1 << 63, 1<<64 - 1, 1<<63 - 1, 1<<64 - 2, 0x5555555555555555, 0xaaaaaaaaaaaaaaaa}
	next := chance(10)
	for range 3000 {
		word := next(1<<31)<<33 ^ next(1<<31)<<16 ^ next(1<<31)
		words = append(words, word, word|word<<next(64), word|word<<1|word<<2|word<<3, ^(1<<next(64) | 1<<next(64)))
	}
	for _, word := range words {
		for n := 1; n <= 64; n++ {
			want, is := oneByOne(word, n)
			if at, ok := find(word, n); ok != is || ok && at != want {
				t.Fatalf("find(%x, %d): %d, %v; want %d, %v", word, n, at, ok, want, is)
			}
		}
	}
}

func oneByOne(word uint64, n int) (int, bool) {
	long := 0
	for i := range 64 {
		if word>>i&1 == 0 {
			long = 0
			continue
		}
		if long++; long == n {
			return i + 1 - n, true
		}
	}
	return 0, false
}
