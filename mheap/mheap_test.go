package mheap

import (
	"fmt"
	"maps"
	"slices"
	"strings"
	"testing"

	"mallow/api"
	"mallow/class"
	"mallow/vmem"
)

// wantAt ends the test, if a span does not begin at a page.
func (w *twin) wantAt(id int, at uint64) {
	w.Helper()
	s, e := w.h.Span(id)
	if e != api.OK || s.Info().Base != at*pageBytes {
		w.wrong("span %d (%d) does not begin at page %d", id, e, at)
	}
}

// wantOwner ends the test, if a page is another one's.
func (w *twin) wantOwner(at uint64, what, who int) {
	w.Helper()
	if a, b := w.h.Owner(at); a != what || b != who {
		w.wrong("Owner(%d): %d, %d, want %d, %d", at, a, b, what, who)
	}
}

// wantPages ends the test, if Pages tells otherwise.
func (w *twin) wantPages(all, held, released uint64) {
	w.Helper()
	if a, b, c := w.h.Pages(); a != all || b != held || c != released {
		w.wrong("Pages: %d, %d, %d, want %d, %d, %d", a, b, c, all, held, released)
	}
}

// want ends the test, if an errno is another one.
func (w *twin) want(e, want api.Errno) {
	w.Helper()
	if e != want {
		w.wrong("%d, want %d", e, want)
	}
}

// 16.1 to 16.5: the chapter's example.
func TestExample(t *testing.T) {
	w := twinOf(t, api.Answers{})
	w.check()
	w.wantPages(0, 0, 0)
	id, _ := w.alloc(0, 1, 5, false)
	w.wantAt(id, 512)
	w.wantPages(512, 1, 511)
	again, _ := w.alloc(0, 1, 5, false)
	w.wantAt(again, 513)
	w.wantOwner(513, 3, 2)
	w.wantOwner(514, 2, 0)
	w.wantOwner(575, 2, 0)
	third, _ := w.alloc(0, 16, 0, false)
	w.wantAt(third, 576)
	w.wantOwner(600, 1, 0)
	w.wantOwner(0, 0, 0)
	if id != 1 || again != 2 || third != 3 {
		t.Error("numbers: ", id, again, third)
	}
	w.want(w.free(3), api.OK)
	w.want(w.free(3), api.ErrNone)
}

// 16.2: spans of every class, of Ps and of none, with and without pointers; each
// tells of itself what chapter 13 has it tell.
func TestEveryClass(t *testing.T) {
	for _, p := range []int{-1, 0, 63} {
		w := twinOf(t, api.Answers{})
		for number, c := range class.Table()[1:] {
			id, e := w.h.Alloc(p, uint64(c.Pages), number+1, number%2 == 0)
			wantID, _ := w.m.alloc(p, uint64(c.Pages), number+1, number%2 == 0)
			if id != wantID || e != api.OK {
				t.Fatalf("class %d: %d, %d", number+1, id, e)
			}
			s, _ := w.h.Span(id)
			if i := s.Info(); i.Class != number+1 || i.NoPtr != (number%2 == 0) || i.Elem != c.Size || i.Slots != c.Slots || i.State != api.SpanInUse {
				t.Errorf("class %d: %v", number+1, i)
			}
		}
		w.check()
		for id := 1; id <= 67; id += 3 {
			w.free(id)
		}
		for number := 67; number > 0; number -= 4 {
			w.alloc(p, uint64(class.Table()[number].Pages), number, true)
		}
	}
}

// 16.2: pages that are not a class's, wrong classes and wrong pages, whatever the
// P is: nothing changes, and the system is not asked.
func TestAllocErrors(t *testing.T) {
	w := twinOf(t, api.Answers{Refuse: []bool{false, false, true}})
	w.alloc(0, 1, 5, false)
	for _, p := range []int{minInt, -1, 0, 63, 64, maxInt} {
		for _, x := range []struct {
			pages uint64
			class int
		}{
			{0, 0}, {0, 1}, {0, 5}, {0, -1}, {0, 68}, {2, 5}, {1 << 32, 5}, {1<<32 + 1, 5}, {1<<63 + 1, 5}, {1, -1}, {1, 68}, {1, minInt}, {1, maxInt},
			{1, 67}, {15, 1}, {1<<27 + 1, 0}, {1<<27 + 1, 5}, {1 << 35, 0}, {1<<35 + 1, 0}, {1<<35 - 512, 0}, {1 << 51, 0}, {1<<63 + 1, 0}, {greatest, 0},
			{greatest - 511, 0}, {greatest, 5}, {greatest, -1},
		} {
			_, e := w.alloc(p, x.pages, x.class, true)
			w.want(e, api.ErrArg)
		}
	}
	_, e := w.alloc(0, 512, 0, false)
	w.want(e, api.ErrMemory)
}

// 16.2: Manual's errors, at each edge of pages and of elem; and the spans beside them.
func TestManualEdges(t *testing.T) {
	w := twinOf(t, api.Answers{})
	for _, n := range []uint64{0, 1, 2, 15, 16, 511, 512, 513, 1<<27 + 1, 1 << 35, 1<<35 + 1, 1 << 51, 1 << 63, greatest} {
		bytes := int(n) * pageBytes
		for _, elem := range []int{minInt, -8, -1, 0, 1, 7, 8, 9, 8192, bytes - 1, bytes, bytes + 1, maxInt} {
			id, e := w.h.Manual(n, elem)
			wantID, wantE := w.m.manual(n, elem)
			if id != wantID || e != wantE {
				t.Fatalf("Manual(%d, %d): %d, %d, want %d, %d", n, elem, id, e, wantID, wantE)
			}
			if id != 0 && (n > 16 || elem%8 == 0) {
				w.h.Free(id)
				w.m.free(id)
			}
		}
		w.check()
	}
	// It is of no P: no cache has been filled.
	for _, c := range w.h.caches {
		if !c.Empty() {
			t.Error("a cache was filled")
		}
	}
}

// 16.1, step 1: of 15 pages and fewer the cache of a P is asked, if there is such
// a P; of 16 and more it is not.
func TestWhoAsksCaches(t *testing.T) {
	for _, p := range []int{minInt, -64, -1, 0, 1, 5, 62, 63, 64, 128, 256, maxInt} {
		for _, n := range []uint64{1, 2, 14, 15, 16, 17, 63, 64, 65} {
			w := twinOf(t, api.Answers{})
			w.manual(1, 8)
			w.alloc(p, n, 0, false)
			if is := w.h.caches[p&63].Empty(); is == (p >= 0 && p <= 63 && n < 16) {
				t.Errorf("Alloc(%d, %d): the cache has none: %t", p, n, is)
			}
			w.alloc(p, n, 0, true)
			w.alloc(p, 1, 5, true)
		}
	}
}

// 16.1, step 1: a cache that has pages, but not so many in a row, is not filled
// again; the tree is asked. It is filled where it has none, with what the tree
// has, even if that is too little.
func TestCacheWithTooFew(t *testing.T) {
	w := twinOf(t, api.Answers{})
	a, _ := w.manual(505, 8) // 512 to 1016
	w.alloc(7, 8, 0, false)  // none are there: grown by; the cache has 1017 to 1023 then
	w.wantOwner(1017, 2, 7)
	w.wantOwner(1023, 2, 7)
	w.wantAt(2, 1024)
	w.alloc(7, 8, 0, false)
	w.wantAt(3, 1032)
	w.alloc(7, 7, 0, false)
	w.wantAt(4, 1017)
	w.want(w.free(a), api.OK)
	w.alloc(7, 15, 0, false)
	w.wantAt(a, 512)
	w.wantOwner(527, 2, 7)
	w.wantOwner(575, 2, 7)
	w.wantOwner(576, 1, 0)
}

// 16.1, step 1: a cache out of which pages go takes the first ones, and the next
// block once it has none.
func TestCacheInOrder(t *testing.T) {
	w := twinOf(t, api.Answers{})
	w.manual(3, 8)
	for i := range 130 {
		id, _ := w.alloc(63, 1, 0, true)
		w.wantAt(id, uint64(515+i))
	}
	w.wantOwner(645, 2, 63)
	w.wantOwner(703, 2, 63)
	w.wantOwner(704, 1, 0)
}

// 16.1, 16.3: caches of several Ps used in turns: each has a block of its own, and
// gives its own back, once; of other numbers Flush does nothing.
func TestCachesInTurns(t *testing.T) {
	w := twinOf(t, api.Answers{Refuse: []bool{false, false, false, true}})
	w.manual(2, 8)
	for _, p := range []int{5, 0, 63, 5, 63, 0, 31} {
		w.alloc(p, 3, 0, false)
	}
	for _, x := range []struct {
		at uint64
		p  int
	}{{520, 5}, {582, 0}, {646, 63}, {710, 31}} {
		w.wantOwner(x.at, 2, x.p)
	}
	for _, p := range []int{minInt, -1, 64, 65, maxInt, 1, 62, 5, 5, 63} {
		w.flush(p)
	}
	w.wantOwner(520, 1, 0)
	w.wantOwner(582, 2, 0)
	w.wantOwner(646, 1, 0)
	w.alloc(0, 1, 1, false)
	w.alloc(9, 1, 1, false)
	w.flush(0)
	w.flush(9)
	w.flush(31)
	w.wantPages(512, 2+6*3+2, 512-22)
}

// 16.3: a span goes back when no slot of it is used, and not when it is dead
// already; its pages and its number are given again, the last number first.
func TestFree(t *testing.T) {
	w := twinOf(t, api.Answers{})
	for range 4 {
		w.alloc(-1, 1, 5, false)
	}
	m, _ := w.manual(2, 64)
	for _, id := range []int{2, m} {
		w.use(id)
		w.use(id)
		w.want(w.free(id), api.ErrState)
		w.unuse(id)
		w.want(w.free(id), api.OK)
		w.want(w.free(id), api.ErrNone)
	}
	w.want(w.free(1), api.OK)
	w.die(3)
	w.want(w.free(3), api.ErrState)
	w.want(w.free(3), api.ErrState)
	w.wantOwner(514, 3, 3)
	for _, id := range []int{minInt, -1, 0, 6, 1 << 32, 1<<32 + 4, maxInt} {
		w.want(w.free(id), api.ErrNone)
	}
	for _, want := range []int{1, m, 2, 6, 7} {
		id, _ := w.alloc(-1, 1, 7, true)
		if id != want {
			t.Errorf("number %d, want %d", id, want)
		}
	}
}

// 16.3: a span that is freed is dead, and tells so to who has it yet.
func TestFreedIsDead(t *testing.T) {
	w := twinOf(t, api.Answers{})
	id, _ := w.alloc(3, 1, 5, false)
	s, _ := w.h.Span(id)
	w.free(id)
	if i := s.Info(); i.State != api.SpanDead || i.Base != 512*pageBytes {
		t.Error("it is ", i)
	}
	w.alloc(3, 1, 5, false)
	if now, _ := w.h.Span(id); now == s {
		t.Error("the same object again")
	}
}

// 16.3: Of at the first and the last byte of spans that lie side by side, and
// beside them.
func TestOf(t *testing.T) {
	w := twinOf(t, api.Answers{Places: []uint64{512, 2048}})
	w.alloc(-1, 3, 0, false)
	w.alloc(-1, 600, 0, false)
	w.alloc(-1, 1, 5, false)
	w.alloc(-1, 1, 5, false)
	w.free(1)
	for _, x := range []struct {
		addr uint64
		id   int
	}{
		{0, 0}, {512*pageBytes - 1, 0}, {512 * pageBytes, 0}, {513*pageBytes - 1, 0}, {513 * pageBytes, 0}, {515*pageBytes - 1, 0},
		{515 * pageBytes, 3}, {516*pageBytes - 1, 3}, {516 * pageBytes, 4}, {517*pageBytes - 1, 4}, {517 * pageBytes, 0}, {1024 * pageBytes, 0},
		{2048*pageBytes - 1, 0}, {2048 * pageBytes, 2}, {2560 * pageBytes, 2}, {2648*pageBytes - 1, 2}, {2648 * pageBytes, 0}, {3072 * pageBytes, 0},
		{2048*pageBytes + 1<<48, 0}, {515*pageBytes + 1<<48, 0}, {515*pageBytes + 1<<63, 0}, {1<<48 - 1, 0}, {1 << 48, 0}, {greatest, 0},
	} {
		if id := w.h.Of(x.addr); id != x.id {
			t.Errorf("Of(%d): %d, want %d", x.addr, id, x.id)
		}
	}
}

// 16.1, step 3: how many pages the heap grows by.
func TestGrownBy(t *testing.T) {
	for _, x := range []struct{ n, grown uint64 }{
		{1, 512}, {15, 512}, {16, 512}, {511, 512}, {512, 512}, {513, 1024}, {1024, 1024}, {1025, 1536}, {1535, 1536},
	} {
		for _, p := range []int{-1, 0} {
			w := twinOf(t, api.Answers{})
			id, _ := w.alloc(p, x.n, 0, false)
			w.wantAt(id, 512)
			w.wantPages(x.grown, x.n, x.grown-x.n)
			w.wantOwner(511, 0, 0)
			w.wantOwner(512+x.grown, 0, 0)
			// What is left is not enough for one more, so it grows behind these.
			id, _ = w.manual(x.grown-x.n+1, 8)
			if x.n < x.grown {
				w.wantAt(id, 512+x.n) // through both
			}
		}
	}
}

// 16.1, step 3: the tree is asked first, and through all arenas that lie side by
// side; it grows by as many as n, not by what is missing.
func TestGrownByAll(t *testing.T) {
	w := twinOf(t, api.Answers{})
	w.alloc(-1, 100, 0, false)
	w.alloc(-1, 413, 0, false) // one too many for the rest
	w.wantAt(2, 612)
	w.wantPages(1024, 513, 511)
	w.alloc(-1, 512, 0, false)
	w.wantAt(3, 1025)
	w.wantPages(1536, 1025, 511)
}

// 16.1, step 3: places that the system tells: beside one another, apart, ahead of
// what there is, at the end of the address space; and such as will not do. Behind
// each the next one is asked for with the page behind the last ones as hint.
func TestPlaces(t *testing.T) {
	for _, places := range [][]uint64{
		{1024, 512, 1536},
		{2048, 5, 1024},
		{4096, 3584, 4608, 3072},
		{allPages - 512, 0, 512},
		{allPages - 1024, allPages - 512, allPages - 1536},
		{allPages - 1536, allPages - 512, allPages - 2048},
		{allPages - 512, allPages - 1024, allPages},
		{0, allPages, 1},
		{1 << 63, greatest, greatest - 511},
		{1 << 20, 1 << 20, 1<<20 + 1024},
		{1<<34 - 512, 1 << 34, 1<<34 + 512},
		{1 << 33, 1<<33 + 256, 1<<33 - 512},
	} {
		for _, l := range [][]uint64{{512, 512, 512, 512}, {1, 1000, 513, 512}, {600, 600, 600, 2000}, {500, 20, 1100, 700}} {
			w := twinOf(t, api.Answers{Places: places})
			for _, n := range l {
				w.alloc(2, n, 0, true)
			}
			w.alloc(2, 3, 0, true)
			w.free(2)
			w.alloc(2, 2, 0, true)
			w.manual(700, 8)
			w.scavenge(100)
			w.manual(1024, 8)
		}
	}
}

// 16.1, step 3: the hint is the page behind the last ones, and not behind the
// highest ones.
func TestHint(t *testing.T) {
	w := twinOf(t, api.Answers{Places: []uint64{8192, 2048}})
	for _, at := range []uint64{8192, 2048, 2560, 3072} {
		id, _ := w.alloc(-1, 512, 0, false)
		w.wantAt(id, at)
	}
	w = twinOf(t, api.Answers{Places: []uint64{allPages - 512}})
	for _, at := range []uint64{allPages - 512, 512, 1024} {
		id, _ := w.alloc(-1, 512, 0, false)
		w.wantAt(id, at)
	}
}

// 16.1, step 3: where the system refuses to reserve, nothing has grown, and the
// hint stays; the same call is answered once it grants it.
func TestReserveRefused(t *testing.T) {
	w := twinOf(t, api.Answers{Refuse: []bool{true, true, false, false, true, true, true, false, false}})
	for _, n := range []uint64{1, 600} {
		_, e := w.alloc(0, n, 0, false)
		w.want(e, api.ErrMemory)
		w.wantPages(0, 0, 0)
	}
	_, e := w.alloc(0, 510, 0, false)
	w.want(e, api.OK)
	w.store(512, 77)
	w.store(1021, 78)
	for range 3 {
		_, e = w.alloc(0, 3, 0, false)
		w.want(e, api.ErrMemory)
		w.wantOwner(1022, 2, 0) // what was filled ahead of it stays so
		w.wantOwner(1023, 2, 0)
		w.wantPages(512, 510, 2)
	}
	id, e := w.alloc(0, 3, 0, false)
	w.want(e, api.OK)
	w.wantAt(id, 1024)
}

// 16.1, step 4: where the system refuses to commit pages that are new, what has
// grown stays, and the pages are the tree's, and released.
func TestCommitOfNewRefused(t *testing.T) {
	for _, n := range []uint64{1, 15, 16, 511, 512, 513, 1500} {
		for _, p := range []int{-1, 0, 63} {
			w := twinOf(t, api.Answers{Refuse: []bool{false, true, true, true}})
			for range 3 {
				_, e := w.alloc(p, n, 0, false)
				w.want(e, api.ErrMemory)
				all := (n + 511) / 512 * 512
				w.wantPages(all, 0, all)
				w.wantOwner(512, 1, 0)
			}
			id, e := w.alloc(p, n, 0, false)
			w.want(e, api.OK)
			if n >= 16 || p < 0 {
				w.wantAt(id, 512)
			}
		}
	}
}

// 16.1, step 4: pages that are ready are had without the system, whatever it would
// answer.
func TestReadyAsksNobody(t *testing.T) {
	w := twinOf(t, api.Answers{Refuse: []bool{false, false, true}})
	id, _ := w.alloc(-1, 40, 0, false)
	w.free(id)
	for _, n := range []uint64{3, 17, 15} {
		_, e := w.alloc(-1, n, 0, false)
		w.want(e, api.OK)
	}
	_, e := w.alloc(-1, 6, 0, false)
	w.want(e, api.ErrMemory) // one more than are ready
	_, e = w.alloc(-1, 5, 0, false)
	w.want(e, api.OK)
}

// mixed is a heap whose first pages are the tree's: of each the letter tells
// whether it is ready (r), released (s), or was never ready (n, which all others
// are too, and none is ahead of an r or s). From then on the system refuses as it
// is told.
func mixed(t *testing.T, letters string, refuse ...bool) *twin {
	t.Helper()
	granted := make([]bool, 1+strings.Count(letters, "r")+strings.Count(letters, "s"))
	w := twinOf(t, api.Answers{Refuse: append(granted, refuse...), Fill: []uint64{91, 92, 93}})
	w.what = "mixed " + letters
	for range len(granted) - 1 {
		w.h.Alloc(-1, 1, 0, false)
		w.m.alloc(-1, 1, 0, false)
	}
	free := func(letter rune) {
		for i, c := range letters {
			if c == letter {
				w.h.Mem().Store(uint64(512+i)*pageBytes, uint64(i))
				w.m.pages[uint64(512+i)].words[0] = uint64(i)
				w.h.Free(1 + i)
				w.m.free(1 + i)
			}
		}
	}
	free('s')
	w.h.Scavenge(greatest)
	w.m.scavenge(greatest)
	free('r')
	w.check()
	return w
}

// 16.1, step 4, 16.6: where the system refuses to commit pages of which some are
// ready, some were released and some are new, each goes back as what it is, out of
// the tree and out of a cache; what is ready keeps its words; and the same call is
// answered once the system grants it.
func TestCommitOfMixedRefused(t *testing.T) {
	for _, letters := range []string{
		"r", "s", "n", "rs", "sr", "rn", "sn", "rsn", "srn", "rrssrrss", "ssrrssrr", "srsrsrsrsrsrsrsr", "rsrsrsrsrsrsrsrs", "rsssssssssssssssr",
		"srrrrrrrrrrrrrrrs", "rrrrrrrrsnnn", "ssssssssrnnn", "rrrrrrrrrrrrrrrr", "ssssssssssssssss", "rsrrsssrrrrsssssrrrrrrsssssss",
	} {
		for _, n := range []int{1, 2, 3, 4, 8, 14, 15, 16, 17, len(letters) - 1, len(letters), len(letters) + 1, 100} {
			if n < 1 {
				continue
			}
			for _, p := range []int{-1, 0} {
				w := mixed(t, letters, true, true)
				refused := strings.Trim((letters + "n")[:min(n, len(letters)+1)], "r") != ""
				for range 2 {
					if _, e := w.alloc(p, uint64(n), 0, false); (e == api.ErrMemory) != refused {
						w.wrong("%d", e)
					}
					refused = refused && p < 0 // the cache has given these away
					if !refused {
						break
					}
				}
				w.alloc(p, uint64(n), 0, false)
				w.alloc(p, uint64(n), 0, false)
				w.manual(uint64(n), 8)
				w.flush(0)
				w.scavenge(3)
			}
		}
	}
}

// 16.1, step 4: the same through several chunks, and of Manual.
func TestCommitOfManyRefused(t *testing.T) {
	for _, even := range []bool{false, true} {
		w := twinOf(t, api.Answers{Refuse: []bool{false, false, false, false, true, true}})
		a, _ := w.manual(700, 8)
		b, _ := w.manual(500, 8)
		w.store(600, 9)
		w.store(1300, 10)
		if even {
			a, b = b, a
		}
		w.free(a)
		w.scavenge(300)
		w.free(b)
		for range 2 {
			_, e := w.manual(1536, 8)
			w.want(e, api.ErrMemory)
			w.wantPages(1536, 0, 636)
		}
		_, e := w.manual(1536, 8)
		w.want(e, api.OK)
	}
}

// R2: what is wrong is told ahead of what the system refuses, and what there is
// no span of ahead of a span's state; a refused call takes no number.
func TestErrorsInOrder(t *testing.T) {
	w := twinOf(t, api.Answers{Refuse: []bool{true, false, true}})
	_, e := w.alloc(-1, 2, 5, false)
	w.want(e, api.ErrArg)
	_, e = w.manual(1, 7)
	w.want(e, api.ErrArg)
	_, e = w.manual(1, 8)
	w.want(e, api.ErrMemory)
	_, e = w.alloc(99, 1, 67, false)
	w.want(e, api.ErrArg)
	_, e = w.alloc(99, 1, 0, false)
	w.want(e, api.ErrMemory)
	id, _ := w.alloc(99, 1, 0, false)
	if id != 1 {
		t.Error("the first number is ", id)
	}
	w.use(1)
	w.want(w.free(2), api.ErrNone)
	w.want(w.free(1), api.ErrState)
}

// 16.4: free pages of the tree are released, the highest first, in parts and at
// once; those of caches and of spans are not; what was released is made ready with
// what the system leaves in it.
func TestScavenge(t *testing.T) {
	for _, most := range []uint64{0, 1, 2, 17, 511, 512, 513, 1039, 1040, 1041, 1 << 35, 1 << 63, greatest} {
		w := twinOf(t, api.Answers{Places: []uint64{2048, 1024}, Fill: []uint64{5, 6, 7}})
		a, _ := w.alloc(0, 600, 0, false)
		b, _ := w.manual(10, 8)
		c, _ := w.alloc(0, 440, 0, false)
		w.alloc(0, 1, 5, false)
		w.alloc(0, 512, 0, false)
		w.store(2048, 1)
		w.store(1500, 2)
		w.scavenge(most)
		w.free(a)
		w.free(c)
		w.scavenge(most)
		w.flush(0)
		w.scavenge(most)
		w.free(b)
		w.scavenge(most)
		w.alloc(1, 4, 0, false)
		w.manual(605, 8)
		w.scavenge(most)
	}
}

// 16.4: what a Scavenge in parts releases is what one of all does.
func TestScavengeInParts(t *testing.T) {
	for _, part := range []uint64{1, 7, 100, 512} {
		w := twinOf(t, api.Answers{})
		id, _ := w.alloc(-1, 300, 0, false)
		w.alloc(-1, 1, 5, false)
		other, _ := w.alloc(-1, 600, 0, false)
		w.free(id)
		w.free(other)
		var all uint64
		for range 900 {
			n, _ := w.h.Scavenge(part), w.m.scavenge(part)
			all += n
			if n == 0 {
				break
			}
		}
		w.check()
		if all != 900 || w.scavenge(part) != 0 {
			t.Errorf("in parts of %d: %d", part, all)
		}
		w.manual(50, 8)
		w.alloc(4, 2, 0, false)
	}
}

// 16.1 to 16.5: the greatest spans that there are, one behind the other.
func TestGreatest(t *testing.T) {
	const n = 1 << 27
	h := New(vmem.New(api.Answers{Refuse: []bool{false, true, false, true}}))
	if _, e := h.Alloc(0, n, 0, true); e != api.ErrMemory {
		t.Error("refused: ", e)
	}
	if all, held, released := h.Pages(); all != n || held != 0 || released != n {
		t.Error("Pages: ", all, held, released)
	}
	if id, e := h.Manual(1, 8); id != 1 || e != api.OK || h.Free(1) != api.OK {
		t.Error("Manual: ", id, e)
	}
	if _, e := h.Alloc(0, n, 0, true); e != api.ErrMemory {
		t.Error("refused: ", e)
	}
	if all, held, released := h.Pages(); all != n || held != 0 || released != n-1 {
		t.Error("Pages: ", all, held, released)
	}
	for i := range uint64(2) {
		id, e := h.Alloc(0, n, 0, true)
		if id != int(i)+1 || e != api.OK {
			t.Fatal("Alloc: ", id, e)
		}
		for _, at := range []uint64{0, 1, n / 2, n - 1} {
			at += 512 + i*n
			if what, who := h.Owner(at); what != 3 || who != id || h.Of(at*pageBytes+8191) != id {
				t.Errorf("page %d: %d, %d", at, what, who)
			}
		}
		if what, _ := h.Owner(512 + i*n + n); what != 0 || h.Of((512+i*n+n)*pageBytes) != 0 {
			t.Error("behind the last page: ", what)
		}
	}
	if h.Free(1) != api.OK || h.Of(512*pageBytes) != 0 || h.Of((512+n)*pageBytes) != 2 {
		t.Error("Free")
	}
	if k := h.Scavenge(n / 2); k != n/2 || h.Mem().Count(api.PageReleased) != n/2 || h.Mem().State(511+n) != api.PageReleased {
		t.Error("Scavenge: ", k)
	}
	if k := h.Scavenge(greatest); k != n/2 || h.Mem().Count(api.PageReady) != n {
		t.Error("Scavenge: ", k)
	}
}

// 16.1, step 3: where the address space has no place any more, the heap does not
// grow; what is shorter goes in yet.
func TestNoPlace(t *testing.T) {
	const n = 1 << 27
	var places []uint64
	for at := uint64(n / 2); at < allPages; at += n {
		places = append(places, at)
	}
	h := New(vmem.New(api.Answers{Places: places}))
	for i := range places {
		if id, e := h.Manual(512, 8); id != i+1 || e != api.OK {
			t.Fatal("Manual: ", id, e)
		}
	}
	for range 2 {
		if _, e := h.Alloc(-1, n, 0, false); e != api.ErrMemory {
			t.Error("Alloc: ", e)
		}
		if all, held, released := h.Pages(); all != uint64(len(places))*512 || held != all || released != 0 {
			t.Error("Pages: ", all, held, released)
		}
	}
	id, e := h.Manual(n/2-512, 8)
	if s, _ := h.Span(id); e != api.OK || s.Info().Base != (allPages-n/2+512)*pageBytes {
		t.Error("Manual of what goes in: ", id, e)
	}
	if what, who := h.Owner(allPages - 1); what != 3 || who != id || h.Of(1<<48-1) != id || h.Of(1<<48) != 0 {
		t.Error("the last page: ", what, who)
	}
}

// 16.1 to 16.6, W2, W6: long mixed rows of calls, with a system that refuses now
// and then, tells places and fills pages; behind each of them all is asked.
func TestLong(t *testing.T) {
	for seed := range uint64(16) {
		t.Run(fmt.Sprint(seed), func(t *testing.T) {
			t.Parallel()
			next := chance(seed)
			w := twinOf(t, answersBy(next))
			for range 160 {
				w.step(next)
			}
		})
	}
}

// answersBy are what a system says that refuses one in six, and tells places few
// of which will do.
func answersBy(next func(uint64) uint64) api.Answers {
	var a api.Answers
	for range 200 {
		a.Refuse = append(a.Refuse, next(6) == 0)
		a.Fill = append(a.Fill, next(1000))
	}
	for range 8 {
		a.Places = append(a.Places, []uint64{next(12) * 512, next(5000), allPages - next(4)*512}[next(3)])
	}
	return a
}

// step does one of all calls.
func (w *twin) step(next func(uint64) uint64) {
	w.Helper()
	p := []int{-1, 0, 1, 5, 63, 64}[next(6)]
	ids := slices.Sorted(maps.Keys(w.m.spans))
	id := int(next(20))
	if len(ids) > 0 && next(8) > 0 {
		id = ids[next(uint64(len(ids)))]
	}
	_, there := w.m.spans[id]
	what := next(14)
	if len(w.m.pages) > 3500 {
		what = 7 + next(7)
	}
	switch {
	case what < 3:
		number := int(next(68))
		w.alloc(p, uint64(class.Table()[number].Pages), number, next(2) == 0)
	case what < 5:
		w.alloc(p, []uint64{1, 2, 3, 7, 15, 16, 17, 64, 100, 300, 511, 512, 513, 900}[next(14)], 0, next(2) == 0)
	case what < 7:
		w.manual([]uint64{1, 4, 15, 16, 40, 200, 512, 600}[next(8)], []int{7, 8, 48, 8192, 8193, 32768}[next(6)])
	case what < 9:
		w.free(id)
	case what == 9:
		w.flush(p)
	case what == 10:
		w.scavenge([]uint64{1, 5, 60, 512, 1000, greatest}[next(6)])
	case what == 11 && there:
		w.use(id)
	case what == 12 && there:
		w.unuse(id)
	case there:
		w.store(w.m.spans[id].first+next(uint64(w.m.spans[id].info.Pages)), next(1<<30))
	}
}

// R3: a list that was answered is the caller's own.
func TestListsAreNew(t *testing.T) {
	w := twinOf(t, api.Answers{})
	if l := w.h.Spans(); len(l) != 0 {
		t.Error("Spans of none: ", l)
	}
	for range 5 {
		w.alloc(0, 1, 5, false)
	}
	l := w.h.Spans()
	clear(l[:cap(l)])
	l = append(l, 8, 9)
	w.check()
	a, b := w.h.Spans(), w.h.Spans()
	_ = append(a[:2], 70, 71, 72)
	if !slices.Equal(b, []int{1, 2, 3, 4, 5}) || len(l) != 7 {
		t.Error("a list has changed with another one: ", b)
	}
	w.check()
}

// 16.5: Mem is the address space itself.
func TestMem(t *testing.T) {
	m := vmem.New(api.Answers{})
	h := New(m)
	if h.Mem() != m {
		t.Error("another one")
	}
}

// R4: two heaps, each over its own address space, don't see one another.
func TestTwoHeaps(t *testing.T) {
	a, b := twinOf(t, api.Answers{Places: []uint64{1024}}), twinOf(t, api.Answers{Refuse: []bool{true}})
	a.alloc(0, 1, 5, false)
	_, e := b.alloc(0, 1, 5, false)
	b.want(e, api.ErrMemory)
	b.alloc(0, 600, 0, false)
	a.check()
	b.alloc(0, 2, 0, false)
	a.alloc(0, 2, 0, false)
	a.flush(0)
	b.check()
	b.free(1)
	a.check()
	b.scavenge(10)
	a.scavenge(10)
	b.check()
}
