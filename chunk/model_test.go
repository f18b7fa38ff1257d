package chunk

import (
	"fmt"
	"math"
	"testing"

	"mallow/api"
	"mallow/bits"
)

// page is what chapter 8 tells of one.
type page struct{ used, released bool }

// The model keeps each page as one of its own, and goes by chapter 8 page by
// page.
type model [512]page

func newModel() *model {
	m := &model{}
	m.fill(0, 512, page{released: true})
	return m
}

func (m *model) fill(i, n int, p page) {
	for k := i; k < i+n; k++ {
		m[k] = p
	}
}

// wrong is 8.2's 'the span of pages is not right or n is 0'; numbers above 512
// are told first, as the sum of two may wrap round.
func wrong(i, n int) bool {
	return i < 0 || n < 0 || i > 512 || n > 512 || i+n > 512 || n == 0
}

// some tells whether one of the pages is used, or free.
func (m *model) some(i, n int, used bool) bool {
	for k := i; k < i+n; k++ {
		if m[k].used == used {
			return true
		}
	}
	return false
}

func (m *model) take(i, n int) (int, api.Errno) {
	if wrong(i, n) {
		return 0, api.ErrArg
	}
	if m.some(i, n, true) {
		return 0, api.ErrUsed
	}
	were := 0
	for k := i; k < i+n; k++ {
		if m[k].released {
			were++
		}
	}
	m.fill(i, n, page{used: true})
	return were, api.OK
}

// give is Give's, and Back's if the pages are to be released.
func (m *model) give(i, n int, released bool) api.Errno {
	if wrong(i, n) {
		return api.ErrArg
	}
	if m.some(i, n, false) {
		return api.ErrFree
	}
	m.fill(i, n, page{released: released})
	return api.OK
}

func (m *model) find(n, from int) (int, bool) {
	if n < 1 || n > 512 {
		return 0, false
	}
	for i := max(from, 0); i <= 512-n; i++ {
		if !m.some(i, n, true) {
			return i, true
		}
	}
	return 0, false
}

func (m *model) scavenge(most int) (int, int) {
	i := 511
	for i >= 0 && (m[i].used || m[i].released) {
		i--
	}
	if i < 0 || most < 1 {
		return 0, 0
	}
	n := 0
	for ; i >= 0 && n < most && m[i] == (page{}); i-- {
		m[i].released = true
		n++
	}
	return i + 1, n
}

func (m *model) count(is func(p page) bool) int {
	n := 0
	for _, p := range m {
		if is(p) {
			n++
		}
	}
	return n
}

func (m *model) free() int     { return m.count(func(p page) bool { return !p.used }) }
func (m *model) released() int { return m.count(func(p page) bool { return p.released }) }

func (m *model) sum() api.Sum {
	var sum api.Sum
	for sum.Start < 512 && !m[sum.Start].used {
		sum.Start++
	}
	for sum.End < 512 && !m[511-sum.End].used {
		sum.End++
	}
	long := 0
	for _, p := range m {
		long++
		if p.used {
			long = 0
		}
		sum.Max = max(sum.Max, long)
	}
	return sum
}

func (m *model) rows() (used, released bits.Row) {
	for i, p := range m {
		if p.used {
			used[i/64] |= 1 << (i % 64)
		}
		if p.released {
			released[i/64] |= 1 << (i % 64)
		}
	}
	return used, released
}

// chunk makes one of the model's pages, by the calls of the chapter alone.
func (m *model) chunk() *Chunk {
	c := New()
	for i, p := range m {
		if p.released {
			continue
		}
		c.Take(i, 1)
		if !p.used {
			c.Give(i, 1)
		}
	}
	return c
}

// check holds all that a chunk tells against the model.
func check(t *testing.T, name string, c *Chunk, m *model) {
	t.Helper()
	used, released := c.Rows()
	wantUsed, wantReleased := m.rows()
	if used != wantUsed || released != wantReleased {
		t.Fatalf("%s: Rows: %x, %x; want %x, %x", name, used, released, wantUsed, wantReleased)
	}
	if c.Free() != m.free() || c.Released() != m.released() || c.Sum() != m.sum() {
		t.Fatalf("%s: Free %d, Released %d, Sum %v; want %d, %d, %v", name, c.Free(), c.Released(), c.Sum(), m.free(), m.released(), m.sum())
	}
	for w := range used {
		if used[w]&released[w] != 0 {
			t.Fatalf("%s: used %x, and released %x", name, used, released)
		}
	}
}

func checkTake(t *testing.T, name string, c *Chunk, m *model, i, n int) {
	t.Helper()
	name = fmt.Sprintf("%s: Take(%d, %d)", name, i, n)
	want, wantErr := m.take(i, n)
	if got, e := c.Take(i, n); got != want || e != wantErr {
		t.Fatalf("%s: %d, %d; want %d, %d", name, got, e, want, wantErr)
	}
	check(t, name, c, m)
}

func checkGive(t *testing.T, name string, c *Chunk, m *model, i, n int) {
	t.Helper()
	name = fmt.Sprintf("%s: Give(%d, %d)", name, i, n)
	want := m.give(i, n, false)
	if e := c.Give(i, n); e != want {
		t.Fatalf("%s: %d; want %d", name, e, want)
	}
	check(t, name, c, m)
}

func checkBack(t *testing.T, name string, c *Chunk, m *model, i, n int) {
	t.Helper()
	name = fmt.Sprintf("%s: Back(%d, %d)", name, i, n)
	want := m.give(i, n, true)
	if e := c.Back(i, n); e != want {
		t.Fatalf("%s: %d; want %d", name, e, want)
	}
	check(t, name, c, m)
}

func checkFind(t *testing.T, name string, c *Chunk, m *model, n, from int) {
	t.Helper()
	want, is := m.find(n, from)
	if got, ok := c.Find(n, from); got != want || ok != is {
		t.Fatalf("%s: Find(%d, %d): %d, %v; want %d, %v", name, n, from, got, ok, want, is)
	}
}

// checkScavenge answers what Scavenge answered.
func checkScavenge(t *testing.T, name string, c *Chunk, m *model, most int) (int, int) {
	t.Helper()
	name = fmt.Sprintf("%s: Scavenge(%d)", name, most)
	at, long := m.scavenge(most)
	if gotAt, got := c.Scavenge(most); gotAt != at || got != long {
		t.Fatalf("%s: %d, %d; want %d, %d", name, gotAt, got, at, long)
	}
	check(t, name, c, m)
	return at, long
}

// shape is a chunk with a name to tell it by.
type shape struct {
	name  string
	pages model
}

func shapeOf(name string, is func(i int) page) shape {
	s := shape{name: name}
	for i := range s.pages {
		s.pages[i] = is(i)
	}
	return s
}

// kinds are all that a page may be: used, released, and neither.
func kinds() [3]page {
	return [3]page{{used: true}, {released: true}, {}}
}

// shapes are chunks of many kinds: all alike, all but one page, by turns, whole
// words, one piece that is unlike the rest, and by chance.
func shapes() []shape {
	var all []shape
	for _, p := range kinds() {
		all = append(all, shapeOf(fmt.Sprint("all ", p), func(i int) page { return p }))
		for _, q := range kinds() {
			if p != q {
				all = append(all, shapesOfTwo(p, q)...)
			}
		}
	}
	all = append(all, shapeOf("by turns of three", func(i int) page { return kinds()[i%3] }))
	next := chance(8)
	for _, of := range []int{3, 8, 40, 200} {
		at := 0
		all = append(all, shapeOf(fmt.Sprint("rows of some ", of), func(i int) page {
			if next(of) < 3 {
				at = next(3)
			}
			return kinds()[at]
		}))
	}
	return all
}

func shapesOfTwo(p, q page) []shape {
	pick := func(what string, is func(i int) bool) shape {
		return shapeOf(fmt.Sprintf("%v, but %s %v", p, what, q), func(i int) page {
			if is(i) {
				return q
			}
			return p
		})
	}
	all := []shape{
		pick("every second", func(i int) bool { return i%2 == 1 }),
		pick("every second word", func(i int) bool { return i/64%2 == 0 }),
		pick("both ends of each word", func(i int) bool { return i%64 == 0 || i%64 == 63 }),
		pick("200 to 329", func(i int) bool { return i >= 200 && i < 330 }),
	}
	for _, k := range []int{0, 1, 63, 64, 65, 255, 510, 511} {
		all = append(all, pick(fmt.Sprint("page ", k), func(i int) bool { return i == k }))
	}
	return all
}

// eachShape calls with each shape, as a chunk and as a model.
func eachShape(t *testing.T, call func(name string, c *Chunk, m *model)) {
	t.Helper()
	for _, s := range shapes() {
		m := s.pages
		c := m.chunk()
		check(t, s.name, c, &m)
		call(s.name, c, &m)
	}
}

// edges are pages and lengths where words and chunks begin and end, and numbers
// that are neither.
func edges() []int {
	return []int{0, 1, 2, 63, 64, 65, 128, 255, 447, 448, 449, 510, 511, 512, 513, 576, 1024, 1 << 32, 1 << 62, math.MaxInt - 512, math.MaxInt - 511, math.MaxInt - 1, math.MaxInt,
		-1, -2, -63, -64, -65, -511, -512, -513, -1 << 32, math.MinInt + 512, math.MinInt + 1, math.MinInt}
}

// chance answers numbers from 0 to below n that look like chance, the same ones
// in each run.
func chance(state uint64) func(n int) int {
	return func(n int) int {
		state = state*6364136223846793005 + 1442695040888963407
		return int(state>>33) % n
	}
}
