package pcache

import (
	"maps"
	"math"
	"slices"
	"testing"

	"mallow/api"
	"mallow/radix"
)

const (
	allPages  = 1 << 35
	allChunks = 1 << 26
)

// kind is what a page of a tree is, or of a cache, where none is used.
type kind int

const (
	none kind = iota // in no chunk that is in use
	used
	idle // free, and not released
	back // free and released
)

// The model keeps each page for itself: those of the chunks in use, those that
// each of the caches has, and those that somebody got.
type model struct {
	chunks []uint64 // that are in use, rising
	pages  map[uint64]kind
	caches []map[uint64]kind
	got    map[uint64]kind // idle, or back, if it was released when it was got
}

// newModel has chunks in use, with all pages free and released, and so many
// caches.
func newModel(caches int, chunks ...uint64) *model {
	m := &model{chunks: chunks, pages: map[uint64]kind{}, got: map[uint64]kind{}}
	for _, c := range chunks {
		for i := range uint64(512) {
			m.pages[512*c+i] = back
		}
	}
	for range caches {
		m.caches = append(m.caches, map[uint64]kind{})
	}
	return m
}

func (m *model) clone() *model {
	c := &model{chunks: m.chunks, pages: maps.Clone(m.pages), got: maps.Clone(m.got)}
	for _, has := range m.caches {
		c.caches = append(c.caches, maps.Clone(has))
	}
	return c
}

func (m *model) set(first, end uint64, k kind) {
	for p := first; p < end; p++ {
		m.pages[p] = k
	}
}

func isFree(k kind) bool { return k == idle || k == back }

// find is the least page at which n free ones in a row begin.
func (m *model) find(n uint64) (uint64, bool) {
	long, last := uint64(0), uint64(0)
	for _, c := range m.chunks {
		for p := 512 * c; p < 512*c+512; p++ {
			if !isFree(m.pages[p]) || p > last+1 {
				long = 0
			}
			if last = p; !isFree(m.pages[p]) {
				continue
			}
			if long++; long == n {
				return p + 1 - n, true
			}
		}
	}
	return 0, false
}

// count is how many pages of the tree are of one of these kinds.
func (m *model) count(kinds ...kind) uint64 {
	n := uint64(0)
	for _, k := range m.pages {
		if slices.Contains(kinds, k) {
			n++
		}
	}
	return n
}

func (m *model) fill(i int) api.Errno {
	if len(m.caches[i]) > 0 {
		return api.ErrState
	}
	first, ok := m.find(1)
	if !ok {
		return api.ErrFull
	}
	for p := first / 64 * 64; p < first/64*64+64; p++ {
		if isFree(m.pages[p]) {
			m.caches[i][p] = m.pages[p]
			m.pages[p] = used
		}
	}
	return api.OK
}

func (m *model) alloc(i, n int) (uint64, int, api.Errno) {
	if n < 1 || n > 64 {
		return 0, 0, api.ErrArg
	}
	has := m.caches[i]
search:
	for _, first := range slices.Sorted(maps.Keys(has)) {
		were := 0
		for p := first; p < first+uint64(n); p++ {
			if has[p] == none {
				continue search
			}
			if has[p] == back {
				were++
			}
		}
		for p := first; p < first+uint64(n); p++ {
			m.got[p] = has[p]
			delete(has, p)
		}
		return first, were, api.OK
	}
	return 0, 0, api.ErrFull
}

// flush gives each page for itself; a tree refuses what it does not have, or has
// as free already.
func (m *model) flush(i int) {
	for p, k := range m.caches[i] {
		if m.pages[p] == used {
			m.pages[p] = k
		}
	}
	m.caches[i] = map[uint64]kind{}
}

// tell is what Tell does of the i-th cache.
func (m *model) tell(i int) (uint64, uint64, uint64) {
	block, has, released := uint64(0), uint64(0), uint64(0)
	for p, k := range m.caches[i] {
		block = p - p%64
		has |= 1 << (p % 64)
		if k == back {
			released |= 1 << (p % 64)
		}
	}
	return block, has, released
}

// tree makes one of the model's pages, by the calls of chapter 9 alone.
func (m *model) tree() *radix.Tree {
	t := radix.New()
	for _, c := range m.chunks {
		t.Grow(c, 1)
		t.Take(512*c, 512)
	}
	for p, k := range m.pages {
		switch k {
		case idle:
			t.Give(p, 1)
		case back:
			t.Back(p, 1)
		}
	}
	return t
}

// check holds all that caches and their tree tell against the model.
func check(t *testing.T, name string, r *radix.Tree, m *model, caches ...*Cache) {
	t.Helper()
	for i, c := range caches {
		checkCache(t, name, c, m, i)
	}
	checkTree(t, name, r, m)
	checkOwners(t, name, m)
}

func checkCache(t *testing.T, name string, c *Cache, m *model, i int) {
	t.Helper()
	block, has, released := c.Tell()
	if b, h, x := m.tell(i); b != block || h != has || x != released {
		t.Fatalf("%s: Tell of cache %d: %d, %x, %x; want %d, %x, %x", name, i, block, has, released, b, h, x)
	}
	if c.Empty() != (len(m.caches[i]) == 0) {
		t.Fatalf("%s: Empty of cache %d: %v", name, i, c.Empty())
	}
}

func checkTree(t *testing.T, name string, r *radix.Tree, m *model) {
	t.Helper()
	if n, k := m.count(idle, back), m.count(back); r.Free() != n || r.Released() != k {
		t.Fatalf("%s: Free %d, Released %d; want %d, %d", name, r.Free(), r.Released(), n, k)
	}
	for p, k := range m.pages {
		in, free, released := r.State(p)
		if !in || free != isFree(k) || released != (k == back) {
			t.Fatalf("%s: State(%d): %v, %v, %v; want that of %d", name, p, in, free, released, k)
		}
	}
	for _, n := range []uint64{1, 2, 64, 65, 512} {
		want, is := m.find(n)
		if p, ok := r.Find(n); p != want || ok != is {
			t.Fatalf("%s: Find(%d): %d, %v; want %d, %v", name, n, p, ok, want, is)
		}
	}
}

// checkOwners is 10.5: what one of the caches has, or somebody got, is used in
// the tree, and of nobody else.
func checkOwners(t *testing.T, name string, m *model) {
	t.Helper()
	seen := maps.Clone(m.got)
	for _, has := range m.caches {
		for p, k := range has {
			if seen[p] != none {
				t.Fatalf("%s: page %d is of two", name, p)
			}
			seen[p] = k
		}
	}
	for p := range seen {
		if m.pages[p] != used {
			t.Fatalf("%s: page %d is the tree's, and somebody's", name, p)
		}
	}
}

// checkFill, checkAlloc and checkFlush ask the i-th cache, and the model.
func checkFill(t *testing.T, name string, r *radix.Tree, m *model, i int, caches ...*Cache) {
	t.Helper()
	want := m.fill(i)
	if e := caches[i].Fill(r); e != want {
		t.Fatalf("%s: Fill of cache %d: %d; want %d", name, i, e, want)
	}
	check(t, name+", Fill", r, m, caches...)
}

func checkAlloc(t *testing.T, name string, r *radix.Tree, m *model, i, n int, caches ...*Cache) api.Errno {
	t.Helper()
	was := maps.Clone(m.got)
	want, were, e := m.alloc(i, n)
	p, k, code := caches[i].Alloc(n)
	if p != want || k != were || code != e {
		t.Fatalf("%s: Alloc(%d) of cache %d: %d, %d, %d; want %d, %d, %d", name, n, i, p, k, code, want, were, e)
	}
	for q := p; e == api.OK && q < p+uint64(n); q++ {
		if was[q] != none {
			t.Fatalf("%s: Alloc(%d) of cache %d: %d, but somebody has page %d", name, n, i, p, q)
		}
	}
	check(t, name+", Alloc", r, m, caches...)
	return e
}

func checkFlush(t *testing.T, name string, r *radix.Tree, m *model, i int, caches ...*Cache) {
	t.Helper()
	m.flush(i)
	caches[i].Flush(r)
	check(t, name+", Flush", r, m, caches...)
}

// lengths are the edges of how many pages may be asked for.
func lengths() []int {
	return []int{math.MinInt, -64, -1, 0, 1, 2, 3, 31, 32, 33, 62, 63, 64, 65, 128, 1 << 32, math.MaxInt - 63, math.MaxInt}
}
