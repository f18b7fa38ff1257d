package chunk

import (
	"math"
	"testing"

	"mallow/api"
	"mallow/bits"
)

// Ways: both rows are arrays that the chunk holds by value.
var _, _ [8]uint64 = Chunk{}.used, Chunk{}.released

var _ interface {
	Take(int, int) (int, api.Errno)
	Give(int, int) api.Errno
	Back(int, int) api.Errno
	Find(int, int) (int, bool)
	Scavenge(int) (int, int)
	Sum() api.Sum
	Free() int
	Released() int
	Rows() (bits.Row, bits.Row)
} = New()

// eachRight calls with each span that is right and not empty.
func eachRight(call func(i, n int)) {
	for i := 0; i < 512; i++ {
		for n := 1; n <= 512-i; n++ {
			call(i, n)
		}
	}
}

func rowOf(i, n int) bits.Row {
	var m model
	m.fill(i, n, page{used: true})
	row, _ := m.rows()
	return row
}

func wantRows(t *testing.T, name string, c *Chunk, used, released bits.Row) {
	t.Helper()
	if gotUsed, gotReleased := c.Rows(); gotUsed != used || gotReleased != released {
		t.Fatalf("%s: Rows: %x, %x; want %x, %x", name, gotUsed, gotReleased, used, released)
	}
}

// 8.1 to 8.3: the chapter's example.
func TestExample(t *testing.T) {
	c := New()
	if n, e := c.Take(0, 4); n != 4 || e != api.OK {
		t.Error("Take(0, 4): ", n, e)
	}
	if n, e := c.Take(3, 1); n != 0 || e != api.ErrUsed {
		t.Error("Take(3, 1): ", n, e)
	}
	if e := c.Give(1, 2); e != api.OK {
		t.Error("Give(1, 2): ", e)
	}
	if i, ok := c.Find(1, 0); i != 1 || !ok {
		t.Error("Find(1, 0): ", i, ok)
	}
	if c.Free() != 510 || c.Released() != 508 {
		t.Error("Free, Released: ", c.Free(), c.Released())
	}
	if s := c.Sum(); s != (api.Sum{Start: 0, Max: 508, End: 508}) {
		t.Error("Sum: ", s)
	}
	if at, n := c.Scavenge(512); at != 1 || n != 2 {
		t.Error("Scavenge(512): ", at, n)
	}
	if at, n := c.Scavenge(512); at != 0 || n != 0 {
		t.Error("Scavenge(512) again: ", at, n)
	}
	wantRows(t, "example", c, bits.Row{1<<0 | 1<<3}, bits.Row{^uint64(1<<0 | 1<<3), ^uint64(0), ^uint64(0), ^uint64(0), ^uint64(0), ^uint64(0), ^uint64(0), ^uint64(0)})
}

// 8.1: what is told of a new chunk, and of one whose pages are all used, and
// then all free and not released.
func TestAllAlike(t *testing.T) {
	none, all := bits.Row{}, rowOf(0, 512)
	c := New()
	wantRows(t, "new", c, none, all)
	if c.Free() != 512 || c.Released() != 512 || c.Sum() != (api.Sum{Start: 512, Max: 512, End: 512}) {
		t.Error("new: ", c.Free(), c.Released(), c.Sum())
	}
	if n, e := c.Take(0, 512); n != 512 || e != api.OK {
		t.Error("Take(0, 512): ", n, e)
	}
	wantRows(t, "all used", c, all, none)
	if c.Free() != 0 || c.Released() != 0 || c.Sum() != (api.Sum{}) {
		t.Error("all used: ", c.Free(), c.Released(), c.Sum())
	}
	if e := c.Give(0, 512); e != api.OK {
		t.Error("Give(0, 512): ", e)
	}
	wantRows(t, "all given", c, none, none)
	if c.Free() != 512 || c.Released() != 0 || c.Sum() != (api.Sum{Start: 512, Max: 512, End: 512}) {
		t.Error("all given: ", c.Free(), c.Released(), c.Sum())
	}
	if n, e := c.Take(0, 512); n != 0 || e != api.OK {
		t.Error("Take(0, 512) of what was given: ", n, e)
	}
	if e := c.Back(0, 512); e != api.OK {
		t.Error("Back(0, 512): ", e)
	}
	wantRows(t, "all back", c, none, all)
}

// 8.2: each span there is, taken, given and taken again, sent back, and taken a
// third time.
func TestEachSpan(t *testing.T) {
	none, all := bits.Row{}, rowOf(0, 512)
	eachRight(func(i, n int) {
		span := rowOf(i, n)
		rest := all
		for w := range rest {
			rest[w] &^= span[w]
		}
		c := New()
		if got, e := c.Take(i, n); got != n || e != api.OK {
			t.Fatalf("Take(%d, %d): %d, %d", i, n, got, e)
		}
		wantRows(t, "taken", c, span, rest)
		if e := c.Give(i, n); e != api.OK {
			t.Fatalf("Give(%d, %d): %d", i, n, e)
		}
		wantRows(t, "given", c, none, rest)
		if got, e := c.Take(i, n); got != 0 || e != api.OK {
			t.Fatalf("Take(%d, %d) again: %d, %d", i, n, got, e)
		}
		wantRows(t, "taken again", c, span, rest)
		if e := c.Back(i, n); e != api.OK {
			t.Fatalf("Back(%d, %d): %d", i, n, e)
		}
		wantRows(t, "back", c, none, all)
		if got, e := c.Take(i, n); got != n || e != api.OK {
			t.Fatalf("Take(%d, %d) of what is back: %d, %d", i, n, got, e)
		}
	})
}

// 8.1, 8.2, R2: all edges as pages and as lengths, in chunks of all kinds, with
// what is told behind each call and behind each one that was refused.
func TestEdges(t *testing.T) {
	calls := []func(*testing.T, string, *Chunk, *model, int, int){checkTake, checkGive, checkBack}
	for _, s := range shapes() {
		for _, call := range calls {
			m := s.pages
			c := m.chunk()
			for _, i := range edges() {
				for _, n := range edges() {
					before := m
					call(t, s.name, c, &m, i, n)
					if m != before {
						m = s.pages
						c = m.chunk()
					}
				}
			}
		}
	}
}

// 8.2: on both sides of the bound, for each page.
func TestBoundOfSpans(t *testing.T) {
	for i := -2; i <= 514; i++ {
		for n := 512 - i - 2; n <= 512-i+2; n++ {
			want := api.ErrArg
			if i >= 0 && n > 0 && i+n <= 512 {
				want = api.OK
			}
			c := New()
			if _, e := c.Take(i, n); e != want {
				t.Errorf("Take(%d, %d): %d", i, n, e)
			}
			c = New()
			c.Take(0, 512)
			if e := c.Give(i, n); e != want {
				t.Errorf("Give(%d, %d): %d", i, n, e)
			}
			c = New()
			c.Take(0, 512)
			if e := c.Back(i, n); e != want {
				t.Errorf("Back(%d, %d): %d", i, n, e)
			}
		}
	}
}

// 8.2: wrong numbers are told ahead of pages that are not as they must be, and
// no pages at all are wrong, wherever they are asked for.
func TestWrongAheadOfState(t *testing.T) {
	used, free := New(), New()
	used.Take(0, 512)
	for _, x := range [][2]int{{0, 0}, {1, 0}, {64, 0}, {511, 0}, {512, 0}, {513, 0}, {-1, 0}, {-1, 2}, {511, 2}, {0, 513}, {512, 1}, {0, -1}, {511, math.MaxInt}, {math.MaxInt, math.MaxInt}, {math.MinInt, math.MinInt}} {
		if n, e := used.Take(x[0], x[1]); n != 0 || e != api.ErrArg {
			t.Errorf("Take%v of what is used: %d, %d", x, n, e)
		}
		if e := free.Give(x[0], x[1]); e != api.ErrArg {
			t.Errorf("Give%v of what is free: %d", x, e)
		}
		if e := free.Back(x[0], x[1]); e != api.ErrArg {
			t.Errorf("Back%v of what is free: %d", x, e)
		}
	}
}

// 8.2, R2: a span of which one page is unlike the others, at its begin, in its
// middle, at its end, and right outside of it.
func TestOnePageUnlike(t *testing.T) {
	for _, x := range [][2]int{{0, 1}, {0, 64}, {0, 512}, {1, 62}, {60, 8}, {63, 2}, {64, 64}, {64, 65}, {100, 300}, {448, 64}, {500, 12}, {510, 1}, {511, 1}} {
		i, n := x[0], x[1]
		for _, odd := range []int{i - 1, i, i + n/2, i + n - 1, i + n} {
			if odd < 0 || odd > 511 {
				continue
			}
			for _, released := range []bool{false, true} {
				m := newModel()
				c := New()
				checkTake(t, "one used", c, m, odd, 1)
				checkTake(t, "one used", c, m, i, n)

				m.fill(0, 512, page{used: true})
				m[odd] = page{released: released}
				c = m.chunk()
				checkGive(t, "one free", c, m, i, n)

				m.fill(0, 512, page{used: true})
				m[odd] = page{released: released}
				c = m.chunk()
				checkBack(t, "one free", c, m, i, n)
			}
		}
	}
}

// 8.2: pages that were released, and not, in one span that is taken.
func TestTakeOfBoth(t *testing.T) {
	c := New()
	c.Take(10, 100)
	c.Give(10, 40)
	c.Back(50, 60)
	for _, x := range [][3]int{{0, 20, 10}, {20, 1, 0}, {21, 28, 0}, {49, 2, 1}, {51, 459, 459}, {510, 2, 2}} {
		if n, e := c.Take(x[0], x[1]); n != x[2] || e != api.OK {
			t.Errorf("Take(%d, %d): %d, %d; want %d", x[0], x[1], n, e, x[2])
		}
	}
	if c.Free() != 0 || c.Released() != 0 {
		t.Error("Free, Released: ", c.Free(), c.Released())
	}
}

// 8.2: pages that were sent back lie beside ones that were given, and only those
// that a call names are turned.
func TestGiveAndBack(t *testing.T) {
	c := New()
	c.Take(0, 512)
	m := &model{}
	m.fill(0, 512, page{used: true})
	checkGive(t, "both", c, m, 60, 8)
	checkBack(t, "both", c, m, 68, 8)
	checkBack(t, "both", c, m, 52, 8)
	checkBack(t, "both", c, m, 60, 8)  // given already
	checkGive(t, "both", c, m, 68, 8)  // back already
	checkBack(t, "both", c, m, 59, 1)  // back already
	checkGive(t, "both", c, m, 51, 2)  // one of two
	checkBack(t, "both", c, m, 75, 2)  // one of two
	checkTake(t, "both", c, m, 52, 24) // 16 of them released
	checkGive(t, "both", c, m, 0, 512)
}

// 8.2: each from of few, in chunks of all kinds; released pages are free ones.
func TestFind(t *testing.T) {
	eachShape(t, func(name string, c *Chunk, m *model) {
		for _, n := range edges() {
			for _, from := range edges() {
				checkFind(t, name, c, m, n, from)
			}
		}
		for from := range 513 {
			checkFind(t, name, c, m, 1, from)
			checkFind(t, name, c, m, 2, from)
			checkFind(t, name, c, m, 65, from)
		}
		check(t, name, c, m)
	})
}

// 8.3: each most, in chunks of all kinds.
func TestScavengeOnce(t *testing.T) {
	mosts := append(edges(), 3, 64, 129, 130, 131, 200, 312)
	for _, s := range shapes() {
		for _, most := range mosts {
			m := s.pages
			checkScavenge(t, s.name, m.chunk(), &m, most)
		}
	}
}

// 8.3
func TestScavengeEdges(t *testing.T) {
	for _, x := range []struct{ i, n, most, at, long int }{
		{0, 512, 512, 0, 512}, {0, 512, 513, 0, 512}, {0, 512, math.MaxInt, 0, 512}, {0, 512, 511, 1, 511}, {0, 512, 1, 511, 1}, {0, 512, 0, 0, 0}, {0, 512, -1, 0, 0}, {0, 512, math.MinInt, 0, 0},
		{0, 1, 512, 0, 1}, {511, 1, 512, 511, 1}, {511, 1, 1, 511, 1}, {511, 1, 0, 0, 0}, {63, 2, 2, 63, 2}, {63, 2, 1, 64, 1}, {64, 64, 65, 64, 64}, {64, 64, 63, 65, 63}, {60, 400, 399, 61, 399},
	} {
		// Around what is given all is used, and then all is released.
		for _, around := range []page{{used: true}, {released: true}} {
			m := &model{}
			m.fill(0, 512, around)
			m.fill(x.i, x.n, page{})
			c := m.chunk()
			if at, long := c.Scavenge(x.most); at != x.at || long != x.long {
				t.Errorf("(%d, %d) is idle: Scavenge(%d): %d, %d; want %d, %d", x.i, x.n, x.most, at, long, x.at, x.long)
			}
			m.fill(x.at, x.long, page{released: true})
			check(t, "scavenged", c, m)
		}
	}
}

// 8.3: an answer that begins at page 0 is told from none by its length.
func TestScavengeOfNone(t *testing.T) {
	used := New()
	used.Take(0, 512)
	for _, c := range []*Chunk{New(), used} {
		for _, most := range edges() {
			if at, n := c.Scavenge(most); at != 0 || n != 0 {
				t.Errorf("Scavenge(%d): %d, %d", most, at, n)
			}
		}
	}
}

// 8.3, 8.4: again and again, by few and by many, from the highest page down,
// until all free pages are released.
func TestScavengeAll(t *testing.T) {
	for _, most := range []int{1, 2, 63, 64, 65, 511, 512, 513, math.MaxInt} {
		eachShape(t, func(name string, c *Chunk, m *model) {
			free, end := c.Free(), 512
			for c.Released() < free {
				at, n := checkScavenge(t, name, c, m, most)
				if n < 1 || at+n > end {
					t.Fatalf("%s: Scavenge(%d): %d, %d behind %d", name, most, at, n, end)
				}
				end = at
			}
			if at, n := c.Scavenge(most); at != 0 || n != 0 || c.Free() != free {
				t.Errorf("%s: Scavenge(%d) at the end: %d, %d", name, most, at, n)
			}
		})
	}
}

// 8.1, R3: rows that were answered are the caller's own, and stay as they were.
func TestRowsAreCopies(t *testing.T) {
	eachShape(t, func(name string, c *Chunk, m *model) {
		used, released := c.Rows()
		for w := range used {
			used[w], released[w] = ^used[w], ^released[w]
		}
		check(t, name, c, m)
		used, released = c.Rows()
		wantUsed, wantReleased := m.rows()
		c.Scavenge(7)
		c.Take(0, 1)
		c.Give(0, 1)
		c.Back(100, 300)
		if used != wantUsed || released != wantReleased {
			t.Errorf("%s: rows that were answered became %x, %x", name, used, released)
		}
	})
}

// Ways: a chunk that is copied by value is one of its own.
func TestHeldByValue(t *testing.T) {
	first := New()
	first.Take(5, 200)
	second := *first
	second.Give(5, 200)
	second.Scavenge(50)
	if first.Free() != 312 || first.Released() != 312 || second.Free() != 512 || second.Released() != 362 {
		t.Error("Free, Released: ", first.Free(), first.Released(), second.Free(), second.Released())
	}
}

// R4: two chunks in turns don't see one another.
func TestChunksAreApart(t *testing.T) {
	next := chance(84)
	var chunks [2]*Chunk
	var models [2]*model
	for k := range chunks {
		chunks[k], models[k] = New(), newModel()
	}
	for range 2000 {
		k := next(2)
		work(t, next, chunks[k], models[k])
		check(t, "the other", chunks[1-k], models[1-k])
	}
}

// work does one call by chance.
func work(t *testing.T, next func(int) int, c *Chunk, m *model) {
	t.Helper()
	i, n := next(515)-1, next(next(next(515)+1)+1)-1
	switch next(8) {
	case 0, 1, 2:
		if at, ok := m.find(n, i); ok && next(2) == 0 {
			i = at
		}
		checkTake(t, "by chance", c, m, i, n)
	case 3:
		checkGive(t, "by chance", c, m, i, n)
	case 4:
		checkBack(t, "by chance", c, m, i, n)
	case 5:
		checkScavenge(t, "by chance", c, m, n)
	case 6:
		checkFind(t, "by chance", c, m, n, i)
		check(t, "by chance", c, m)
	case 7:
		giveRow(t, next, c, m, max(i, 0))
	}
}

// giveRow gives, or sends back, the used pages from one on: by chance alone a
// long span of which all pages are used would hardly be met.
func giveRow(t *testing.T, next func(int) int, c *Chunk, m *model, from int) {
	t.Helper()
	n := 0
	for from+n < 512 && m[from+n].used {
		n++
	}
	if next(2) == 0 {
		checkGive(t, "a row", c, m, from, n)
	} else {
		checkBack(t, "a row", c, m, from, n)
	}
}

// 8.1 to 8.4: a chunk that is worked on for long, against the model.
func TestAgainstModel(t *testing.T) {
	for seed := range uint64(20) {
		next := chance(800 + seed)
		c, m := New(), newModel()
		for range 2000 {
			work(t, next, c, m)
		}
	}
}

// R1: every number of the whole range ends with an answer.
func TestAllNumbers(t *testing.T) {
	numbers := []int{0, math.MinInt, math.MaxInt}
	for k := range 63 {
		p := 1 << k
		numbers = append(numbers, p-1, p, p+1, -p, -p-1)
	}
	m := newModel()
	for i := 1; i < 256; i = 2*i + 2 {
		m.fill(i, 1+i/2, page{used: true})
	}
	m.fill(300, 150, page{})
	whole := m.chunk()
	for _, a := range numbers {
		for _, b := range numbers {
			for _, call := range []func(c *Chunk) api.Errno{
				func(c *Chunk) api.Errno { _, e := c.Take(a, b); return e },
				func(c *Chunk) api.Errno { return c.Give(a, b) },
				func(c *Chunk) api.Errno { return c.Back(a, b) },
			} {
				c := *whole
				e := call(&c)
				if (e == api.ErrArg) != wrong(a, b) || e != api.OK && c != *whole {
					t.Fatalf("(%d, %d): %d, wrong: %v", a, b, e, wrong(a, b))
				}
			}
			checkFind(t, "all numbers", whole, m, a, b)
		}
		other := *m
		checkScavenge(t, "all numbers", other.chunk(), &other, a)
	}
}
