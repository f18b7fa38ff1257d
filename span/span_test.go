package span

import (
	"math"
	"slices"
	"testing"

	"mallow/api"
	"mallow/class"
)

var _ interface {
	Info() api.Info
	Next() (int, api.Errno)
	Give(int) api.Errno
	Used(int) bool
	Slot(int) (uint64, api.Errno)
	Index(uint64) (int, api.Errno)
	Mark(int) api.Errno
	Marked(int) bool
	Sweep() ([]int, api.Errno)
	Die() api.Errno
} = &Span{}

// The chapter's example.
func TestExample(t *testing.T) {
	s, e := New(512, 1, 5, false)
	if e != api.OK || s.Info() != (api.Info{Base: 4194304, Pages: 1, State: api.SpanInUse, Class: 5, Elem: 48, Slots: 170}) {
		t.Fatal("New: ", s.Info(), e)
	}
	w := wantNew(512, 1, 5, false)
	next := func(want int) {
		t.Helper()
		if i, e := checkNext(t, "example", s, w); i != want || e != api.OK {
			t.Errorf("Next: %d, %d, want %d", i, e, want)
		}
	}
	next(0)
	next(1)
	checkMark(t, "example", s, w, 1)
	if l, e := checkSweep(t, "example", s, w); !slices.Equal(l, []int{0}) || e != api.OK {
		t.Error("Sweep: ", l, e)
	}
	next(0)
	next(2)
	if i, e := s.Index(4194304 + 100); i != 2 || e != api.OK {
		t.Error("Index: ", i, e)
	}
	if i, e := s.Index(4194304 + 8160); i != 0 || e != api.ErrAddr {
		t.Error("Index behind the last slot: ", i, e)
	}
	checkMark(t, "example", s, w, 9)
	if l, e := checkSweep(t, "example", s, w); len(l) != 0 || e != api.ErrZombie {
		t.Error("Sweep with a mark on a free slot: ", l, e)
	}
	if s, e := New(512, 2, 5, false); s != nil || e != api.ErrArg {
		t.Error("New of two pages: ", s, e)
	}
}

// oddPages are first pages for so many: such as fit, and such as do not.
func oddPages(pages uint64) []uint64 {
	return []uint64{
		0, 1, 512, allPages - pages - 1, allPages - pages, allPages - pages + 1, allPages - 1, allPages, allPages + 1,
		1 << 48, 1 << 63, -pages - 1, -pages, -pages + 1, greatest - 1, greatest,
	}
}

// 13.1: pages, first pages and classes at the edges, right and wrong ones together;
// of what is right all is told.
func TestNew(t *testing.T) {
	numbers := []int{math.MinInt, math.MinInt + 1, -1 << 32, -68, -67, -1, 68, 69, 1 << 32, 1<<32 + 5, math.MaxInt}
	for n := range 68 {
		numbers = append(numbers, n)
	}
	made := 0
	for _, number := range numbers {
		own := uint64(1)
		if number > 0 && number < 68 {
			own = uint64(class.Table()[number].Pages)
		}
		for _, pages := range []uint64{
			0, 1, own - 1, own, own + 1, onePages - 1, onePages, onePages + 1, allPages - 1, allPages, allPages + 1,
			1<<32 + own, 1<<51 + own, 1<<63 + own, greatest - 1, greatest,
		} {
			for i, page := range oddPages(pages) {
				noptr := i%2 == 1
				s, e := New(page, pages, number, noptr)
				w := wantNew(page, pages, number, noptr)
				if w == nil {
					if s != nil || e != api.ErrArg {
						t.Fatalf("New(%d, %d, %d): %v, %d", page, pages, number, s, e)
					}
					continue
				}
				if s == nil || e != api.OK {
					t.Fatalf("New(%d, %d, %d): %v, %d", page, pages, number, s, e)
				}
				check(t, "new", s, w)
				made++
			}
		}
	}
	if made < 68*5 {
		t.Errorf("%d spans", made)
	}
}

// 13.1: numbers that the document names, without the model.
func TestNewNamed(t *testing.T) {
	for _, x := range []struct {
		page, pages uint64
		number      int
		want        api.Info
	}{
		{0, 1, 1, api.Info{Pages: 1, State: 1, Class: 1, Elem: 8, Slots: 1024}},
		{3, 1, 3, api.Info{Base: 24576, Pages: 1, State: 1, Class: 3, Elem: 24, Slots: 341}},
		{0, 4, 67, api.Info{Pages: 4, State: 1, Class: 67, Elem: 32768, Slots: 1}},
		{1, 3, 0, api.Info{Base: 8192, Pages: 3, State: 1, Elem: 24576, Slots: 1}},
		{allPages - onePages, onePages, 0, api.Info{Base: 1<<48 - 1<<40, Pages: 1 << 27, State: 1, Elem: 1 << 40, Slots: 1}},
	} {
		for _, noptr := range []bool{false, true} {
			x.want.NoPtr = noptr
			if s, e := New(x.page, x.pages, x.number, noptr); e != api.OK || s.Info() != x.want {
				t.Errorf("New(%d, %d, %d): %d, want %v", x.page, x.pages, x.number, e, x.want)
			}
		}
	}
	s, e := Manual(2, 1, 3000)
	if want := (api.Info{Base: 16384, Pages: 1, State: 2, Elem: 3000, Slots: 2}); e != api.OK || s.Info() != want {
		t.Error("Manual: ", e)
	}
}

// 13.1: elems at the edges, with right and wrong pages.
func TestManualEdges(t *testing.T) {
	made := 0
	for _, pages := range []uint64{
		0, 1, 2, 3, 4, 15, 16, 17, 512, onePages - 1, onePages, onePages + 1, allPages - 1, allPages, allPages + 1,
		1 << 51, 1<<51 + 1, 1<<63 + 1, greatest - 1, greatest,
	} {
		bytes := int(pages * pageBytes)
		for _, page := range oddPages(pages) {
			for _, elem := range []int{
				math.MinInt, math.MinInt + 8, -1 << 32, -bytes, -8, -1, 0, 1, 7, 8, 9, 10, 16, 4096, 8191, 8192, 8193, 32767, 32768, 32769, 1 << 17,
				bytes/2 - 1, bytes / 2, bytes/2 + 1, bytes - 1, bytes, bytes + 1, 1 << 32, 1<<32 + 8, 1 << 40, 1<<40 + 1, math.MaxInt - 1, math.MaxInt,
			} {
				s, e := Manual(page, pages, elem)
				w := wantManual(page, pages, elem)
				if w == nil {
					if s != nil || e != api.ErrArg {
						t.Fatalf("Manual(%d, %d, %d): %v, %d", page, pages, elem, s, e)
					}
					continue
				}
				if s == nil || e != api.OK {
					t.Fatalf("Manual(%d, %d, %d): %v, %d", page, pages, elem, s, e)
				}
				if made++; made%8 == 0 {
					check(t, "manual", s, w)
				}
				if s.Info() != w.info {
					t.Fatalf("Manual(%d, %d, %d): %v", page, pages, elem, s.Info())
				}
			}
		}
	}
	if made < 800 {
		t.Errorf("%d spans", made)
	}
}

// oddAddrs are addresses around a span and its slots.
func oddAddrs(w *slots) []uint64 {
	begin := w.info.Base
	end := begin + uint64(w.info.Pages)*pageBytes
	behind := begin + uint64(w.info.Slots)*uint64(w.info.Elem)
	out := []uint64{0, 1, 1 << 47, 1<<48 - 1, 1 << 48, 1 << 63, greatest - 1, greatest}
	for _, a := range []uint64{begin, behind, end} {
		for d := range uint64(3) {
			// With these parts taken away, a number of 32 or 48 bits would be right.
			out = append(out, a+d, a-d-1, a+d+1<<32, a+d+1<<48, a+d-1<<48, a+d+1<<63)
		}
	}
	return out
}

// 13.2, 13.6: of each class, every byte of the span, and addresses around it.
func TestIndexClasses(t *testing.T) {
	for number, c := range class.Table() {
		if number == 0 {
			continue
		}
		for _, page := range []uint64{0, 512, allPages - uint64(c.Pages)} {
			s, w := madeNew(t, page, number, false)
			for at := range c.Pages * pageBytes {
				i, e := s.Index(page*pageBytes + uint64(at))
				if at >= c.Slots*c.Size {
					if i != 0 || e != api.ErrAddr {
						t.Fatalf("class %d: Index of byte %d: %d, %d", number, at, i, e)
					}
				} else if i != at/c.Size || e != api.OK {
					t.Fatalf("class %d: Index of byte %d: %d, %d", number, at, i, e)
				}
			}
			for i := range c.Slots {
				checkPlace(t, s, w, i)
			}
			for _, addr := range oddAddrs(w) {
				checkIndex(t, s, w, addr)
			}
		}
	}
}

// 13.2, 13.6: manual spans, and those of one slot, short, long and very long ones:
// where Quot would be right, and where not.
func TestIndexOthers(t *testing.T) {
	for _, pages := range []uint64{1, 2, 3, 4, 5, 15, 16, 17, 31, 33, 512, 4097, 1 << 19, 1<<19 + 1, onePages - 1, onePages} {
		bytes := int(pages * pageBytes)
		elems := []int{bytes / 2, bytes/2 + 1, bytes/3 + 1, bytes - 1, bytes}
		for k := 3; k <= 40; k++ {
			elems = append(elems, 1<<k-1, 1<<k, 1<<k+1, 3<<(k-1))
		}
		for _, page := range []uint64{0, 7, allPages - pages} {
			for _, elem := range elems {
				if elem < 8 || elem > bytes {
					continue
				}
				s, w := madeManual(t, page, pages, elem)
				checkPlaces(t, s, w)
			}
			s, e := New(page, pages, 0, false)
			if e != api.OK {
				t.Fatalf("New(%d, %d, 0): %d", page, pages, e)
			}
			checkPlaces(t, s, wantNew(page, pages, 0, false))
		}
	}
}

// checkPlaces holds a span to some of its slots: the first and the last ones, and
// those around powers of two.
func checkPlaces(t *testing.T, s *Span, w *slots) {
	t.Helper()
	many := w.info.Slots
	for k := range 38 {
		for _, i := range []int{1<<k - 1, 1 << k, 1<<k + 1, many - 1<<k, many - 1<<k/3} {
			if w.has(i) {
				checkPlace(t, s, w, i)
			}
		}
	}
	for _, addr := range oddAddrs(w) {
		checkIndex(t, s, w, addr)
	}
}

// 13.2, 13.6: manual spans of up to 16 pages with many elems: every slot's edges.
func TestIndexManual(t *testing.T) {
	for _, pages := range []uint64{1, 4, 16} {
		for elem := 8; elem <= int(pages)*pageBytes; elem += 1 + elem/9 {
			s, w := madeManual(t, 40, pages, elem)
			for i := range w.info.Slots {
				at := w.info.Base + uint64(i*elem)
				a, e := s.Slot(i)
				first, e1 := s.Index(at)
				last, e2 := s.Index(at + uint64(elem) - 1)
				if a != at || first != i || last != i || e != api.OK || e1 != api.OK || e2 != api.OK {
					t.Fatalf("%d pages, elem %d, slot %d: %d, %d, %d, %d, %d, %d", pages, elem, i, a, first, last, e, e1, e2)
				}
			}
		}
	}
}

// 13.2: no slot has such a number.
func TestSlotWrong(t *testing.T) {
	for _, number := range []int{0, 1, 5, 60, 67} {
		s, w := madeNew(t, 512, number, false)
		for _, i := range oddSlots(w.info.Slots) {
			if w.has(i) {
				checkPlace(t, s, w, i)
			} else if a, e := s.Slot(i); a != 0 || e != api.ErrArg {
				t.Errorf("class %d: Slot(%d): %d, %d", number, i, a, e)
			}
		}
	}
}

// 13.3, 13.6: of each class: each slot once, rising, and then none.
func TestNextClasses(t *testing.T) {
	for number := range 68 {
		s, w := madeNew(t, 9, number, number%2 == 0)
		for want := range w.info.Slots {
			i, e := s.Next()
			w.next()
			if i != want || e != api.OK || s.Info().Used != want+1 || !s.Used(want) || s.Used(want+1) {
				t.Fatalf("class %d: Next: %d, %d, want %d", number, i, e, want)
			}
		}
		for range 3 {
			if _, e := checkNext(t, "full", s, w); e != api.ErrFull {
				t.Fatalf("class %d: Next of a full one: %d", number, e)
			}
		}
	}
}

// orders are all orders of the numbers below n.
func orders(n int) [][]int {
	if n == 0 {
		return [][]int{{}}
	}
	var out [][]int
	for _, o := range orders(n - 1) {
		for at := range n {
			out = append(out, slices.Insert(slices.Clone(o), at, n-1))
		}
	}
	return out
}

// 13.3, 13.6: slots given back in every order, some or all, and taken again: the
// lowest first.
func TestGiveOrders(t *testing.T) {
	for _, order := range orders(5) {
		for back := range 6 {
			s, w := madeManual(t, 1, 1, 1600)
			for range 6 {
				checkNext(t, "taken", s, w)
			}
			for _, i := range order[:back] {
				if e := checkGive(t, "back", s, w, i); e != api.OK {
					t.Fatalf("Give(%d): %d", i, e)
				}
				checkGive(t, "twice", s, w, i)
			}
			for _, want := range slices.Sorted(slices.Values(order[:back])) {
				if i, e := checkNext(t, "again", s, w); i != want || e != api.OK {
					t.Fatalf("given back %d: Next: %d, %d, want %d", order[:back], i, e, want)
				}
			}
			if _, e := checkNext(t, "full", s, w); e != api.ErrFull {
				t.Fatalf("given back %d: Next of a full one: %d", order[:back], e)
			}
		}
	}
}

// 13.3: the look goes down with a slot that is given back below it, and only then.
func TestGiveLook(t *testing.T) {
	s, w := madeManual(t, 1, 4, 64)
	for range 300 {
		checkNext(t, "taken", s, w)
	}
	for _, x := range []struct{ give, next []int }{
		{[]int{299}, []int{299, 300}}, {[]int{63, 64}, []int{63, 64, 301}}, {[]int{64, 63, 128}, []int{63, 64}}, {[]int{7}, []int{7, 128, 302}},
		{[]int{302, 301, 300, 0}, []int{0, 300}}, {[]int{1, 191, 192, 193}, []int{1, 191, 192, 193, 301, 302, 303}},
	} {
		for _, i := range x.give {
			checkGive(t, "look", s, w, i)
		}
		for _, want := range x.next {
			if i, e := checkNext(t, "look", s, w); i != want || e != api.OK {
				t.Fatalf("behind %d: Next: %d, %d, want %d", x.give, i, e, want)
			}
		}
	}
}

// 13.3, R2: Give of numbers at the edges, of manual spans that are fresh, used in
// part, full.
func TestGiveWrong(t *testing.T) {
	for _, taken := range []int{0, 1, 5, 64, 128} {
		s, w := madeManual(t, 1, 1, 64)
		for range taken {
			checkNext(t, "taken", s, w)
		}
		for _, i := range oddSlots(w.info.Slots) {
			want := api.ErrArg
			switch {
			case i >= 0 && i < taken:
				want = api.OK
			case i >= 0 && i < 128:
				want = api.ErrFree
			}
			if e := checkGive(t, "odd", s, w, i); e != want {
				t.Errorf("%d taken: Give(%d): %d, want %d", taken, i, e, want)
			}
		}
	}
}

// 13.3, 13.4, R2: ErrState stands ahead of all else; what was refused turned nothing.
func TestWrongState(t *testing.T) {
	manual, wm := madeManual(t, 1, 1, 64)
	used, wu := madeNew(t, 1, 8, false)
	for range 3 {
		checkNext(t, "manual", manual, wm)
		checkNext(t, "in use", used, wu)
	}
	for _, i := range oddSlots(128) {
		if e := checkGive(t, "in use", used, wu, i); e != api.ErrState {
			t.Errorf("Give(%d) of one in use: %d", i, e)
		}
		if e := checkMark(t, "manual", manual, wm, i); e != api.ErrState {
			t.Errorf("Mark(%d) of a manual one: %d", i, e)
		}
	}
	if l, e := checkSweep(t, "manual", manual, wm); len(l) != 0 || e != api.ErrState {
		t.Error("Sweep of a manual one: ", l, e)
	}
}

// 13.4: Mark at the edges, of slots that are used and free, once and twice.
func TestMark(t *testing.T) {
	for _, number := range []int{0, 1, 5, 60, 67} {
		s, w := madeNew(t, 1, number, false)
		for range 2 {
			for _, i := range oddSlots(w.info.Slots) {
				want := api.ErrArg
				if i >= 0 && i < w.info.Slots {
					want = api.OK
				}
				if e := checkMark(t, "odd", s, w, i); e != want {
					t.Errorf("class %d: Mark(%d): %d, want %d", number, i, e, want)
				}
			}
			checkNext(t, "odd", s, w)
		}
	}
}

// subset are the numbers whose bits are set.
func subset(mask int) []int {
	var out []int
	for i := 0; mask>>i != 0; i++ {
		if mask>>i&1 == 1 {
			out = append(out, i)
		}
	}
	return out
}

// started is a span of a class of which just these slots are used: all were taken,
// and the others swept.
func started(t *testing.T, number int, used []int) (*Span, *slots) {
	t.Helper()
	s, w := madeNew(t, 3, number, false)
	for range w.info.Slots {
		s.Next()
		w.next()
	}
	for _, i := range used {
		s.Mark(i)
		w.mark(i)
	}
	s.Sweep()
	w.sweep()
	check(t, "started", s, w)
	return s, w
}

// 13.4, 13.6: of a span of four slots, each set of used ones with each set of marked
// ones; then the free ones are taken, and all is swept again.
func TestSweepSubsets(t *testing.T) {
	for used := range 16 {
		for marked := range 16 {
			s, w := started(t, 60, subset(used))
			for _, i := range subset(marked) {
				checkMark(t, "subsets", s, w, i)
			}
			l, e := checkSweep(t, "subsets", s, w)
			left := used & marked
			if marked&^used != 0 {
				if len(l) != 0 || e != api.ErrZombie {
					t.Fatalf("used %b, marked %b: Sweep: %d, %d", used, marked, l, e)
				}
				left = used
			} else if !slices.Equal(l, subset(used&^marked)) || e != api.OK {
				t.Fatalf("used %b, marked %b: Sweep: %d, %d", used, marked, l, e)
			}
			for _, want := range subset(15 &^ left) {
				if i, e := checkNext(t, "subsets", s, w); i != want || e != api.OK {
					t.Fatalf("used %b, marked %b: Next: %d, %d, want %d", used, marked, i, e, want)
				}
			}
			checkNext(t, "full", s, w)
			checkSweep(t, "again", s, w)
			checkSweep(t, "once more", s, w)
		}
	}
}

// 13.4, 13.6: of each class: none, each third, all but one, and all of the slots are
// marked; a second Sweep frees the rest.
func TestSweepClasses(t *testing.T) {
	for number := range 68 {
		for _, keep := range []func(i int) bool{
			func(int) bool { return false },
			func(int) bool { return true },
			func(i int) bool { return i%3 == 0 },
			func(i int) bool { return i%3 != 0 },
			func(i int) bool { return i == 0 },
			func(i int) bool { return i != 0 },
			func(i int) bool { return i >= 64 },
			func(i int) bool { return i < 63 },
		} {
			s, w := madeNew(t, 3, number, false)
			var kept, freed []int
			for i := range w.info.Slots {
				s.Next()
				w.next()
				if keep(i) {
					s.Mark(i)
					w.mark(i)
					kept = append(kept, i)
				} else {
					freed = append(freed, i)
				}
			}
			if l, e := checkSweep(t, "classes", s, w); !slices.Equal(l, freed) || e != api.OK {
				t.Fatalf("class %d: Sweep: %d, %d, want %d", number, l, e, freed)
			}
			if l, e := checkSweep(t, "second", s, w); !slices.Equal(l, kept) || e != api.OK {
				t.Fatalf("class %d: second Sweep: %d, %d, want %d", number, l, e, kept)
			}
			if l, e := checkSweep(t, "third", s, w); len(l) != 0 || e != api.OK {
				t.Fatalf("class %d: third Sweep: %d, %d", number, l, e)
			}
		}
	}
}

// 13.4, R2: one mark on a free slot, wherever it lies; behind the refused Sweep all
// is as it was, and work goes on: when the slot is used, Sweep keeps it.
func TestZombie(t *testing.T) {
	for _, zombie := range []int{4, 5, 62, 63, 64, 65, 127, 128, 168, 169} {
		s, w := madeNew(t, 512, 5, false)
		for range 4 {
			checkNext(t, "zombie", s, w)
		}
		checkMark(t, "zombie", s, w, 2)
		checkMark(t, "zombie", s, w, zombie)
		for range 2 {
			if l, e := checkSweep(t, "zombie", s, w); len(l) != 0 || e != api.ErrZombie {
				t.Fatalf("slot %d: Sweep: %d, %d", zombie, l, e)
			}
		}
		if e := checkDie(t, "zombie", s, w); e != api.ErrState {
			t.Fatalf("slot %d: Die: %d", zombie, e)
		}
		for want := 4; want <= zombie; want++ {
			if i, e := checkNext(t, "zombie", s, w); i != want || e != api.OK {
				t.Fatalf("slot %d: Next: %d, %d, want %d", zombie, i, e, want)
			}
		}
		if l, e := checkSweep(t, "used", s, w); len(l) != zombie-1 || e != api.OK || !s.Used(zombie) || !s.Used(2) {
			t.Fatalf("slot %d: Sweep: %d, %d", zombie, l, e)
		}
	}
}

// 13.5: all calls of a dead span.
func checkDead(t *testing.T, s *Span, w *slots) {
	t.Helper()
	for range 2 {
		checkNext(t, "dead", s, w)
		checkSweep(t, "dead", s, w)
		if e := checkDie(t, "dead", s, w); e != api.ErrState {
			t.Errorf("Die of a dead one: %d", e)
		}
		for _, i := range oddSlots(w.info.Slots) {
			if g, m := checkGive(t, "dead", s, w, i), checkMark(t, "dead", s, w, i); g != api.ErrState || m != api.ErrState {
				t.Errorf("Give(%d), Mark(%d) of a dead one: %d, %d", i, i, g, m)
			}
		}
	}
	if i := s.Info(); i.State != api.SpanDead || i.Used != 0 {
		t.Error("Info of a dead one: ", i)
	}
	if i, e := s.Next(); i != 0 || e != api.ErrState {
		t.Error("Next of a dead one: ", i, e)
	}
	if l, e := s.Sweep(); len(l) != 0 || e != api.ErrState {
		t.Error("Sweep of a dead one: ", l, e)
	}
	checkPlaces(t, s, w)
}

// 13.5: Die of spans that are fresh, marked without being used, used and freed again;
// and of those with a used slot, the first or the last.
func TestDie(t *testing.T) {
	for number := range 68 {
		s, w := madeNew(t, 512, number, true)
		if e := checkDie(t, "fresh", s, w); e != api.OK {
			t.Fatalf("class %d: Die: %d", number, e)
		}
		checkDead(t, s, w)

		s, w = madeNew(t, 512, number, false)
		checkMark(t, "marked", s, w, 0)
		checkMark(t, "marked", s, w, w.info.Slots-1)
		if e := checkDie(t, "marked", s, w); e != api.OK || s.Marked(0) {
			t.Fatalf("class %d: Die: %d", number, e)
		}
		checkDead(t, s, w)

		for _, last := range []int{0, w.info.Slots - 1} {
			s, w := started(t, number, []int{last})
			if e := checkDie(t, "used", s, w); e != api.ErrState {
				t.Fatalf("class %d: Die: %d", number, e)
			}
			checkNext(t, "used", s, w)
			checkSweep(t, "used", s, w)
			if e := checkDie(t, "swept", s, w); e != api.OK {
				t.Fatalf("class %d: Die: %d", number, e)
			}
			checkDead(t, s, w)
		}
	}
}

// 13.5: likewise of manual ones.
func TestDieManual(t *testing.T) {
	for _, elem := range []int{8, 64, 3000, 16384, 32768} {
		for _, taken := range []int{0, 1, 2, 70, 5000} {
			s, w := madeManual(t, 8, 4, elem)
			taken = min(taken, w.info.Slots)
			for range taken {
				s.Next()
				w.next()
			}
			for i := taken - 1; i >= 0; i-- {
				if e := s.Die(); e != api.ErrState {
					t.Fatalf("elem %d, %d used: Die: %d", elem, i+1, e)
				}
				s.Give(i)
				w.give(i)
			}
			if e := checkDie(t, "given back", s, w); e != api.OK {
				t.Fatalf("elem %d: Die: %d", elem, e)
			}
			checkDead(t, s, w)
		}
	}
}

// R3: the list that Sweep answered is its holder's, its spare room too.
func TestOwnList(t *testing.T) {
	s, w := madeNew(t, 512, 1, false)
	var lists, copies [][]int
	for n := range 5 {
		for range 100 * (n + 1) {
			checkNext(t, "list", s, w)
		}
		for i := range 1024 {
			if w.used[i] && i%(n+2) == 0 {
				checkMark(t, "list", s, w, i)
			}
		}
		l, _ := checkSweep(t, "list", s, w)
		lists, copies = append(lists, l), append(copies, slices.Clone(l))
	}
	for n, l := range lists {
		if !slices.Equal(l, copies[n]) {
			t.Fatalf("list %d was turned: %d", n, l)
		}
		l = l[:cap(l)]
		for k := range l {
			l[k] = -7
		}
		check(t, "list", s, w)
		for k := n + 1; k < len(lists); k++ {
			if !slices.Equal(lists[k], copies[k]) {
				t.Fatalf("list %d shares with list %d", n, k)
			}
		}
	}
	checkNext(t, "list", s, w)
	checkSweep(t, "list", s, w)
}

// R4: spans of the same pages, used in turns, don't see one another.
func TestTwoSpans(t *testing.T) {
	a, wa := madeNew(t, 512, 8, false)
	b, wb := madeNew(t, 512, 8, false)
	c, wc := madeManual(t, 512, 1, 64)
	next := chance(5)
	for range 1500 {
		switch next(3) {
		case 0:
			work(t, a, wa, next)
		case 1:
			work(t, b, wb, next)
		default:
			work(t, c, wc, next)
		}
		check(t, "a", a, wa)
		check(t, "b", b, wb)
		check(t, "c", c, wc)
	}
}

// work is one call, mostly a right one.
func work(t *testing.T, s *Span, w *slots, next func(n int) int) {
	t.Helper()
	i := next(w.info.Slots)
	switch n := next(100); {
	case n < 45:
		checkNext(t, "work", s, w)
	case n < 65:
		checkGive(t, "work", s, w, i)
	case n < 85:
		// Mostly a used one, or each Sweep would be refused.
		if w.used[i] || next(300) == 0 {
			checkMark(t, "work", s, w, i)
		}
	case n < 92:
		checkSweep(t, "work", s, w)
	case n < 99:
		odd := oddSlots(w.info.Slots)
		i = odd[next(len(odd))]
		checkGive(t, "odd", s, w, i)
		if !w.has(i) {
			checkMark(t, "odd", s, w, i)
		}
	default:
		checkDie(t, "work", s, w)
	}
}

// 13.2 to 13.6: long work on spans of all kinds.
func TestLongWork(t *testing.T) {
	for seed := range uint64(60) {
		next := chance(seed)
		s, w := madeManual(t, uint64(next(1<<30)), 1+uint64(next(3)), 8+next(400))
		if seed%3 > 0 {
			s, w = madeNew(t, uint64(next(1<<30)), next(68), seed%2 == 0)
		}
		for range 250 {
			work(t, s, w, next)
		}
	}
}
