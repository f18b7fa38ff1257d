package arena

import (
	"iter"
	"math"
	"slices"
	"testing"

	"mallow/api"
)

// Ways: two levels, a map of arrays; the arenas are told by an iterator, and the
// parts of a row of pages too.
var (
	_ map[uint64]owners       = Map{}.arenas
	_ *[512]int               = owners{}.each
	_ iter.Seq2[uint64, part] = parts(0, 0)
)

var _ interface {
	Add(uint64) api.Errno
	Set(uint64, uint64, int) api.Errno
	At(uint64) int
	Has(uint64) bool
	Chunks() iter.Seq[uint64]
} = New()

// 11.1, 11.2: the chapter's example.
func TestExample(t *testing.T) {
	m := New()
	for i, e := range []api.Errno{
		m.Add(1), m.Set(512, 3, 7), m.Set(1023, 2, 7), m.Add(1), m.Add(1 << 26),
	} {
		if want := []api.Errno{api.OK, api.OK, api.ErrAddr, api.ErrTwice, api.ErrArg}[i]; e != want {
			t.Errorf("call %d: %d, want %d", i, e, want)
		}
	}
	if a, b, c := m.At(512*8192), m.At(515*8192), m.At(1<<63); a != 7 || b != 0 || c != 0 {
		t.Error("At: ", a, b, c)
	}
	if m.At(1023*8192) != 0 {
		t.Error("a page was set by a call that was refused")
	}
}

// 11.1, 11.2: a map has no arenas at first: no page is anybody's, and none can be
// set; ErrArg stands ahead of ErrAddr (R2).
func TestNew(t *testing.T) {
	m, w := made()
	check(t, "new", m, w)
	for _, page := range []uint64{0, 1, 511, 512, allPages - 1, allPages, math.MaxUint64} {
		for _, n := range []uint64{0, 1, 512, allPages, math.MaxUint64} {
			for _, id := range []int{0, 1, -1, math.MaxInt, math.MinInt} {
				checkSet(t, "new", m, w, page, n, id)
			}
		}
	}
}

// 11.1: the least and the greatest chunks, those that are none, and those that are
// there already, whatever was set in them: an arena that is refused is not lost.
func TestAdd(t *testing.T) {
	chunks := []uint64{
		0, 1, allChunks - 1, allChunks, allChunks + 1, 1 << 32, 1 << 54, 1 << 63, 1<<63 | 1, math.MaxUint64, 2, 77, allChunks - 2,
	}
	for _, first := range chunks {
		m, w := made()
		checkAdd(t, "first", m, w, first)
		for _, c := range chunks {
			checkAdd(t, "second", m, w, c)
		}
		for i, c := range w.chunks() {
			checkSet(t, "added", m, w, c*arenaPages, 1, i+1)
			checkSet(t, "added", m, w, c*arenaPages+200, 300, i+2)
		}
		for _, c := range chunks {
			checkAdd(t, "again", m, w, c)
		}
	}
}

// 11.1: arenas are told rising, in whichever order they were added.
func TestOrder(t *testing.T) {
	rising := []uint64{0, 1, 2, 3, 9, 10, 500, 1 << 20, 1<<20 + 1, allChunks - 2, allChunks - 1}
	falling := slices.Clone(rising)
	slices.Reverse(falling)
	orders := [][]uint64{rising, falling}
	next := chance(5)
	for range 6 {
		l := slices.Clone(rising)
		for i := range l {
			k := next(uint64(len(l)))
			l[i], l[k] = l[k], l[i]
		}
		orders = append(orders, l)
	}
	for _, order := range orders {
		m, w := made()
		for i, c := range order {
			checkAdd(t, "order", m, w, c)
			checkSet(t, "order", m, w, c*arenaPages+7, 100, i)
		}
		if l := slices.Collect(m.Chunks()); !slices.Equal(l, rising) {
			t.Errorf("added %d: Chunks %d", order, l)
		}
	}
}

// ids are right and wrong ones; 0 is nobody.
func ids() []int {
	return []int{0, 1, 2, -1, -2, 1 << 31, 1 << 32, -1 << 32, math.MaxInt, math.MinInt}
}

// 11.2, 11.3: every number of pages that the chapter's edges name, from pages at
// the edges of arenas on, where arenas stand alone, beside one another, and apart.
func TestSet(t *testing.T) {
	for _, chunks := range [][]uint64{
		{1}, {0}, {allChunks - 1}, {4, 5}, {4, 6}, {0, 1, 2}, {7, 6, 5, 2, 9}, {allChunks - 1, 0, allChunks - 2},
	} {
		m, w := spotted(chunks...)
		pages := []uint64{0, 1, 511, 512, allPages - arenaPages - 1, allPages - 1, allPages, allPages + 1, 1 << 63, math.MaxUint64}
		for _, c := range chunks {
			begin := c * arenaPages
			pages = append(pages, begin-1, begin, begin+1, begin+300, begin+511, begin+512)
		}
		id := 100
		for _, page := range pages {
			for _, n := range []uint64{
				0, 1, 2, 211, 212, 213, 510, 511, 512, 513, 1023, 1024, 1025, 1536, 1537,
				allPages - page, allPages - page + 1, allPages, 1 << 63, -page, -page - 1, math.MaxUint64,
			} {
				id++
				checkSet(t, "edges", m, w, page, n, id)
			}
		}
	}
}

// 11.2: every id: also the greatest number; those below 0 are refused, ahead of
// pages that lie in no arena (R2).
func TestIDs(t *testing.T) {
	m, w := spotted(3, 4)
	for _, id := range ids() {
		checkSet(t, "one", m, w, 3*arenaPages+9, 1, id)
		checkSet(t, "some", m, w, 4*arenaPages-3, 6, id)
		checkSet(t, "all", m, w, 3*arenaPages, 1024, id)
		checkSet(t, "none", m, w, 3*arenaPages, 0, id)
		checkSet(t, "beside", m, w, 3*arenaPages-1, 2, id)
		checkSet(t, "beside", m, w, 5*arenaPages, 1, id)
		checkSet(t, "beside, none", m, w, 5*arenaPages, 0, id)
		checkSet(t, "far", m, w, math.MaxUint64, math.MaxUint64, id)
	}
	for _, x := range []struct {
		page, n uint64
		id      int
		want    api.Errno
	}{
		{0, 0, 1, api.ErrArg}, {0, 1, -1, api.ErrArg}, {0, 0, -1, api.ErrArg}, {0, 1, 1, api.ErrAddr},
		{math.MaxUint64, 0, 1, api.ErrArg}, {math.MaxUint64, 1, -1, api.ErrArg}, {math.MaxUint64, 1, 1, api.ErrAddr},
	} {
		if e := checkSet(t, "both", m, w, x.page, x.n, x.id); e != x.want {
			t.Errorf("Set(%d, %d, %d): %d, want %d", x.page, x.n, x.id, e, x.want)
		}
	}
}

// 11.2, R2: rows of pages of which some lie in no arena: at the begin, in the
// middle, at the end: nothing is set then; with the arena that lacks, all is.
func TestGaps(t *testing.T) {
	all := []uint64{20, 21, 22, 23}
	for gap := range all {
		chunks := slices.Delete(slices.Clone(all), gap, gap+1)
		m, w := spotted(chunks...)
		lack := all[gap] * arenaPages
		rows := [][2]uint64{
			{20 * arenaPages, 2048}, {20*arenaPages + 1, 2046}, {lack, 1}, {lack + 511, 1}, {lack + 1, 510},
			{lack - 1, 2}, {lack - 1, 514}, {lack + 511, 2}, {lack - 512, 513}, {lack - 512, 1536},
		}
		for _, r := range rows {
			for _, id := range []int{0, 1, 1000} {
				if e := checkSet(t, "gap", m, w, r[0], r[1], id); e != api.ErrAddr {
					t.Fatalf("Set(%d, %d): %d", r[0], r[1], e)
				}
			}
		}
		checkAdd(t, "gap", m, w, all[gap])
		for i, r := range rows {
			checkSet(t, "no gap", m, w, r[0], r[1], 2000+i)
		}
	}
}

// 11.2: all pages of all arenas that stand beside one another, at once; and one
// more than there are.
func TestAllAndOneMore(t *testing.T) {
	for _, first := range []uint64{0, 1, 600, allChunks - 9} {
		m, w := made()
		for i := range uint64(9) {
			checkAdd(t, "row", m, w, first+(i*4)%9)
		}
		page := first * arenaPages
		for id, r := range [][2]uint64{
			{page, 9 * arenaPages}, {page, 9*arenaPages + 1}, {page + 1, 9*arenaPages - 1}, {page + 1, 9 * arenaPages},
			{page + 5, 9*arenaPages - 10}, {page - 1, 9*arenaPages + 1}, {page - 1, 9 * arenaPages}, {page + 511, 8*arenaPages + 1},
		} {
			checkSet(t, "row", m, w, r[0], r[1], id+1)
		}
		checkSet(t, "row", m, w, page, 9*arenaPages, 0)
	}
}

// 11.3: pages that are set again: to the same id, to another one, and to nobody;
// rows that lie within what was set, around it, and across its ends.
func TestSetAgain(t *testing.T) {
	m, w := made(8, 9, 10)
	begin := uint64(8 * arenaPages)
	for _, x := range []struct {
		at, n uint64
		id    int
	}{
		{100, 50, 1}, {100, 50, 1}, {100, 50, 2}, {120, 10, 0}, {90, 100, 3}, {80, 20, 4}, {180, 20, 5}, {0, 512, 6},
		{511, 2, 7}, {0, 512, 6}, {5, 5, 6}, {5, 5, 0}, {0, 512, 0}, {5, 5, 0}, {1, 1, 1}, {1, 1, 0}, {0, 511, 9}, {511, 1, 9},
		{0, 1536, 9}, {512, 512, 0}, {600, 3, 9}, {0, 1536, 0}, {511, 1, 1}, {512, 1, 2}, {1023, 2, 3}, {1535, 1, 4},
	} {
		checkSet(t, "again", m, w, begin+x.at, x.n, x.id)
	}
}

// 11.2: each single page of an arena, alone and with all behind it.
func TestEachPage(t *testing.T) {
	m, w := made(33)
	begin := uint64(33 * arenaPages)
	for i := range uint64(arenaPages) {
		checkSet(t, "alone", m, w, begin+(i*77)%arenaPages, 1, int(i+1))
	}
	for i := range uint64(arenaPages) {
		at := (i * 123) % arenaPages
		checkSet(t, "behind", m, w, begin+at, arenaPages-at, int(i+1000))
		checkSet(t, "one more", m, w, begin+at, arenaPages-at+1, int(i+2000))
	}
}

// 11.1, 11.2: addresses from 2^48 on lie in no arena, even if there are arenas
// whose addresses end in the same bits.
func TestFarAddresses(t *testing.T) {
	m, w := spotted(0, 1, 2, allChunks-1)
	check(t, "far", m, w)
	for bit := 48; bit < 64; bit++ {
		for p := range w {
			if addr := 1<<bit | p*pageBytes; m.At(addr) != 0 || m.Has(addr) {
				t.Fatalf("At, Has(%d): %d, %t", addr, m.At(addr), m.Has(addr))
			}
		}
	}
}

// 11.1: the arenas are told as long as it is asked.
func TestChunks(t *testing.T) {
	for _, chunks := range [][]uint64{{}, {0}, {allChunks - 1}, {3, 1, 2}, {40, 1, 30, 2, 20, 3, 10}} {
		m, w := made(chunks...)
		seq := m.Chunks()
		for range 2 {
			for most := range len(chunks) + 2 {
				want := w.chunks()[:min(most+1, len(chunks))]
				if l := first(seq, most+1); !slices.Equal(l, want) {
					t.Errorf("%d of %d: %d", most+1, chunks, l)
				}
				if l := first(m.Chunks(), most+1); !slices.Equal(l, want) {
					t.Errorf("asked anew, %d of %d: %d", most+1, chunks, l)
				}
			}
		}
		check(t, "Chunks", m, w)
	}
}

// first asks for so many, and tells of one that comes unasked.
func first(seq iter.Seq[uint64], most int) []uint64 {
	var l []uint64
	seq(func(c uint64) bool {
		l = append(l, c)
		return len(l) < most
	})
	return l
}

// 11.1, R4: loops within loops, over one iterator and over two, don't see each other.
func TestChunksAtOnce(t *testing.T) {
	m, w := made(9, 5, 7, 1)
	one, other := m.Chunks(), m.Chunks()
	for _, inner := range []iter.Seq[uint64]{one, other} {
		var l []uint64
		for a := range one {
			for b := range inner {
				if b > a {
					break
				}
				l = append(l, 10*a+b)
			}
		}
		if want := []uint64{11, 51, 55, 71, 75, 77, 91, 95, 97, 99}; !slices.Equal(l, want) {
			t.Errorf("in turns: %d", l)
		}
	}
	check(t, "at once", m, w)
}

// 11.1, R1, R3: an iterator tells the arenas that there were when it was asked
// for: arenas that are added in its loop neither come up in it nor are lost.
func TestAddWhileTold(t *testing.T) {
	m, w := made(5, 10)
	seq := m.Chunks()
	var l []uint64
	for c := range seq {
		l = append(l, c)
		checkAdd(t, "in the loop", m, w, c+1)
		checkAdd(t, "in the loop", m, w, c-1)
		checkSet(t, "in the loop", m, w, (c-1)*arenaPages, 1536, int(c))
	}
	if !slices.Equal(l, []uint64{5, 10}) || !slices.Equal(slices.Collect(seq), l) {
		t.Error("told: ", l)
	}
	check(t, "behind the loop", m, w)
}

// R3: what a loop does with its numbers is its own.
func TestCollectedIsNew(t *testing.T) {
	m, w := made(3, 4, 5)
	seq := m.Chunks()
	l := slices.Collect(seq)
	clear(l)
	if l := slices.Collect(seq); !slices.Equal(l, w.chunks()) {
		t.Error("told: ", l)
	}
	check(t, "cleared", m, w)
}

// R4: two maps, used in turns, don't see one another.
func TestTwoMaps(t *testing.T) {
	a, wa := made()
	b, wb := made()
	next := chance(9)
	for i := range 300 {
		m, w := a, wa
		if i%2 == 1 {
			m, w = b, wb
		}
		if next(4) == 0 {
			checkAdd(t, "turns", m, w, next(6))
		} else {
			checkSet(t, "turns", m, w, next(6*arenaPages), 1+next(700), int(next(9)))
		}
		check(t, "a", a, wa)
		check(t, "b", b, wb)
	}
}

// 11.1 to 11.3: long work with right and wrong inputs of all kinds.
func TestLongWork(t *testing.T) {
	for seed := range uint64(6) {
		next := chance(seed)
		low := []uint64{0, 50, allChunks - 10}[seed%3]
		m, w := made()
		for range 500 {
			switch next(12) {
			case 0:
				checkAdd(t, "work", m, w, low+next(10))
			case 1:
				checkAdd(t, "wrong", m, w, allChunks+next(1<<next(60)))
			case 2:
				checkSet(t, "wrong", m, w, next(1<<next(63)), next(1<<next(63)), int(next(5))-2)
			case 3, 4:
				checkSet(t, "arenas", m, w, (low+next(10))*arenaPages, (1+next(3))*arenaPages, int(next(4)))
			default:
				n := 1 + next(1<<next(12))
				checkSet(t, "pages", m, w, low*arenaPages+next(10*arenaPages), n, int(next(1<<next(50))))
			}
		}
	}
}
