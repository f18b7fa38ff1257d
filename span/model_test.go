package span

import (
	"fmt"
	"math"
	"math/big"
	"slices"
	"testing"

	"mallow/api"
	"mallow/class"
)

const (
	pageBytes = 8192
	allPages  = 1 << 35
	onePages  = 1 << 27 // that a span without a class has at most
	greatest  = math.MaxUint64
)

// The model of a span has each slot that is used, and each that is marked, by its
// number, and looks for a free one slot by slot.
type slots struct {
	info   api.Info
	used   map[int]bool
	marked map[int]bool
	look   int
}

func slotsOf(info api.Info) *slots {
	return &slots{info: info, used: map[int]bool{}, marked: map[int]bool{}}
}

// pagesFit adds in numbers without bounds.
func pagesFit(page, pages uint64) bool {
	sum := new(big.Int).Add(new(big.Int).SetUint64(page), new(big.Int).SetUint64(pages))
	return pages != 0 && sum.Cmp(big.NewInt(allPages)) <= 0
}

// wantNew is the model of what New makes; nil, if it is refused.
func wantNew(page, pages uint64, number int, noptr bool) *slots {
	if !pagesFit(page, pages) || number < 0 || number > 67 {
		return nil
	}
	info := api.Info{Base: page * pageBytes, Pages: int(pages), State: api.SpanInUse, Class: number, NoPtr: noptr}
	if number == 0 {
		if pages > onePages {
			return nil
		}
		info.Elem, info.Slots = int(pages)*pageBytes, 1
		return slotsOf(info)
	}
	c := class.Table()[number]
	if pages != uint64(c.Pages) {
		return nil
	}
	info.Elem, info.Slots = c.Size, c.Slots
	return slotsOf(info)
}

// wantManual is likewise that of Manual.
func wantManual(page, pages uint64, elem int) *slots {
	if !pagesFit(page, pages) || pages > onePages || elem < 8 || uint64(elem) > pages*pageBytes {
		return nil
	}
	many := pages * pageBytes / uint64(elem)
	return slotsOf(api.Info{Base: page * pageBytes, Pages: int(pages), State: api.SpanManual, Elem: elem, Slots: int(many)})
}

func (w *slots) has(i int) bool { return i >= 0 && i < w.info.Slots }

func (w *slots) next() (int, api.Errno) {
	if w.info.State == api.SpanDead {
		return 0, api.ErrState
	}
	for i := w.look; i < w.info.Slots; i++ {
		if !w.used[i] {
			w.used[i] = true
			w.look = i + 1
			return i, api.OK
		}
	}
	return 0, api.ErrFull
}

func (w *slots) give(i int) api.Errno {
	switch {
	case w.info.State != api.SpanManual:
		return api.ErrState
	case !w.has(i):
		return api.ErrArg
	case !w.used[i]:
		return api.ErrFree
	}
	delete(w.used, i)
	if w.look > i {
		w.look = i
	}
	return api.OK
}

func (w *slots) mark(i int) api.Errno {
	switch {
	case w.info.State != api.SpanInUse:
		return api.ErrState
	case !w.has(i):
		return api.ErrArg
	}
	w.marked[i] = true
	return api.OK
}

func (w *slots) sweep() ([]int, api.Errno) {
	if w.info.State != api.SpanInUse {
		return nil, api.ErrState
	}
	for i := range w.marked {
		if !w.used[i] {
			return nil, api.ErrZombie
		}
	}
	var freed []int
	for i := range w.info.Slots {
		if w.used[i] && !w.marked[i] {
			freed = append(freed, i)
		}
	}
	w.used, w.marked, w.look = w.marked, map[int]bool{}, 0
	return freed, api.OK
}

func (w *slots) die() api.Errno {
	if w.info.State == api.SpanDead || len(w.used) > 0 {
		return api.ErrState
	}
	w.info.State, w.marked = api.SpanDead, map[int]bool{}
	return api.OK
}

// madeNew and madeManual are spans with their models.
func madeNew(t *testing.T, page uint64, number int, noptr bool) (*Span, *slots) {
	t.Helper()
	pages := uint64(1)
	if number > 0 {
		pages = uint64(class.Table()[number].Pages)
	}
	s, e := New(page, pages, number, noptr)
	if s == nil || e != api.OK {
		t.Fatalf("New(%d, %d, %d): %v, %d", page, pages, number, s, e)
	}
	return s, wantNew(page, pages, number, noptr)
}

func madeManual(t *testing.T, page, pages uint64, elem int) (*Span, *slots) {
	t.Helper()
	s, e := Manual(page, pages, elem)
	if s == nil || e != api.OK {
		t.Fatalf("Manual(%d, %d, %d): %v, %d", page, pages, elem, s, e)
	}
	return s, wantManual(page, pages, elem)
}

// oddSlots are numbers at the edges, and such as none may be.
func oddSlots(many int) []int {
	return []int{
		math.MinInt, math.MinInt + 1, -1 << 32, -64, -1, 0, 1, 63, 64, 65, many - 2, many - 1, many, many + 1, many + 63, many + 64,
		1<<31 - 1, 1 << 31, 1 << 32, 1<<32 + 1, 1 << 37, math.MaxInt - 1, math.MaxInt,
	}
}

// 13.2: what Info, Used and Marked tell: of each slot, if they are not too many.
func check(t *testing.T, what string, s *Span, w *slots) {
	t.Helper()
	info := w.info
	info.Used = len(w.used)
	if got := s.Info(); got != info {
		t.Fatalf("%s: Info: %v, want %v", what, got, info)
	}
	for i := range min(info.Slots, 1100) {
		checkSlot(t, what, s, w, i)
	}
	for _, i := range oddSlots(info.Slots) {
		checkSlot(t, what, s, w, i)
	}
	for i := range w.used {
		checkSlot(t, what, s, w, i)
	}
}

func checkSlot(t *testing.T, what string, s *Span, w *slots, i int) {
	t.Helper()
	if u, m := s.Used(i), s.Marked(i); u != w.used[i] || m != w.marked[i] {
		t.Fatalf("%s: slot %d: Used %t, Marked %t, want %t, %t", what, i, u, m, w.used[i], w.marked[i])
	}
}

func checkNext(t *testing.T, what string, s *Span, w *slots) (int, api.Errno) {
	t.Helper()
	i, e := s.Next()
	wi, we := w.next()
	what = fmt.Sprintf("%s: Next %d, %d", what, i, e)
	if i != wi || e != we {
		t.Fatalf("%s, want %d, %d", what, wi, we)
	}
	check(t, what, s, w)
	return i, e
}

func checkGive(t *testing.T, what string, s *Span, w *slots, i int) api.Errno {
	t.Helper()
	e, we := s.Give(i), w.give(i)
	what = fmt.Sprintf("%s: Give(%d) %d", what, i, e)
	if e != we {
		t.Fatalf("%s, want %d", what, we)
	}
	check(t, what, s, w)
	return e
}

func checkMark(t *testing.T, what string, s *Span, w *slots, i int) api.Errno {
	t.Helper()
	e, we := s.Mark(i), w.mark(i)
	what = fmt.Sprintf("%s: Mark(%d) %d", what, i, e)
	if e != we {
		t.Fatalf("%s, want %d", what, we)
	}
	check(t, what, s, w)
	return e
}

// 13.4, 13.6: the used slots are those that were marked.
func checkSweep(t *testing.T, what string, s *Span, w *slots) ([]int, api.Errno) {
	t.Helper()
	marked := w.marked
	l, e := s.Sweep()
	wl, we := w.sweep()
	what = fmt.Sprintf("%s: Sweep %d, %d", what, l, e)
	if !slices.Equal(l, wl) || e != we {
		t.Fatalf("%s, want %d, %d", what, wl, we)
	}
	check(t, what, s, w)
	for i := range min(w.info.Slots, 1100) {
		if e == api.OK && s.Used(i) != marked[i] {
			t.Fatalf("%s: slot %d: Used %t", what, i, s.Used(i))
		}
	}
	return l, e
}

func checkDie(t *testing.T, what string, s *Span, w *slots) api.Errno {
	t.Helper()
	e, we := s.Die(), w.die()
	what = fmt.Sprintf("%s: Die %d", what, e)
	if e != we {
		t.Fatalf("%s, want %d", what, we)
	}
	check(t, what, s, w)
	return e
}

// checkPlace holds Slot and Index of a slot against one another: of its first and
// its last byte, which lie in the span.
func checkPlace(t *testing.T, s *Span, w *slots, i int) {
	t.Helper()
	at := w.info.Base + uint64(i)*uint64(w.info.Elem)
	if a, e := s.Slot(i); a != at || e != api.OK {
		t.Fatalf("%v: Slot(%d): %d, %d, want %d", w.info, i, a, e, at)
	}
	last := at + uint64(w.info.Elem) - 1
	if last >= w.info.Base+uint64(w.info.Pages)*pageBytes {
		t.Fatalf("%v: slot %d does not lie in the span", w.info, i)
	}
	for _, a := range []uint64{at, at + 1, at + uint64(w.info.Elem)/2, last - 1, last} {
		checkIndex(t, s, w, a)
		if k, e := s.Index(a); k != i || e != api.OK {
			t.Fatalf("%v: Index(%d): %d, %d, want %d", w.info, a, k, e, i)
		}
	}
}

// checkIndex divides in numbers without bounds.
func checkIndex(t *testing.T, s *Span, w *slots, addr uint64) {
	t.Helper()
	at := new(big.Int).Sub(new(big.Int).SetUint64(addr), new(big.Int).SetUint64(w.info.Base))
	quot := new(big.Int).Div(at, big.NewInt(int64(w.info.Elem)))
	want, we := 0, api.ErrAddr
	if quot.Sign() >= 0 && quot.Cmp(big.NewInt(int64(w.info.Slots))) < 0 {
		want, we = int(quot.Int64()), api.OK
	}
	if i, e := s.Index(addr); i != want || e != we {
		t.Fatalf("%v: Index(%d): %d, %d, want %d, %d", w.info, addr, i, e, want, we)
	}
}

func chance(seed uint64) func(n int) int {
	return func(n int) int {
		seed = seed*6364136223846793005 + 1442695040888963407
		return int((seed >> 24) % uint64(n))
	}
}
