package special

import (
	"fmt"
	"math"
	"slices"
	"testing"

	"mallow/api"
)

// The model is a list of the records that are there, as they came, each time gone
// through whole.
type model struct{ l []api.Special }

// told is all of those that are asked for, by address, then kind: the least of what
// is left comes next.
func (w *model) told(is func(api.Special) bool) []api.Special {
	var left, l []api.Special
	for _, x := range w.l {
		if is(x) {
			left = append(left, x)
		}
	}
	for len(left) > 0 {
		least := 0
		for i, x := range left {
			if y := left[least]; x.Addr < y.Addr || x.Addr == y.Addr && x.Kind < y.Kind {
				least = i
			}
		}
		l = append(l, left[least])
		left = slices.Delete(left, least, least+1)
	}
	return l
}

func (w *model) place(addr uint64, kind int) int {
	return slices.IndexFunc(w.l, func(x api.Special) bool { return x.Addr == addr && x.Kind == kind })
}

func (w *model) add(x api.Special) api.Errno {
	switch {
	case x.Kind != 1 && x.Kind != 2 && x.Kind != 3:
		return api.ErrArg
	case w.place(x.Addr, x.Kind) >= 0:
		return api.ErrTwice
	}
	w.l = append(w.l, x)
	return api.OK
}

func (w *model) remove(addr uint64, kind int) (uint64, api.Errno) {
	i := w.place(addr, kind)
	if i < 0 {
		return 0, api.ErrNone
	}
	data := w.l[i].Data
	w.l = slices.Delete(w.l, i, i+1)
	return data, api.OK
}

func (w *model) of(addr uint64) []api.Special {
	return w.told(func(x api.Special) bool { return x.Addr == addr })
}

func (w *model) take(addr uint64) []api.Special {
	l := w.of(addr)
	w.l = slices.DeleteFunc(w.l, func(x api.Special) bool { return x.Addr == addr })
	return l
}

func (w *model) between(from, to uint64) []api.Special {
	return w.told(func(x api.Special) bool { return from <= x.Addr && x.Addr < to })
}

// same holds a list that was answered against what it must be, and then writes over
// it and its spare room, so that whatever it shared would be told wrong later (R3).
func same(t *testing.T, what string, got, want []api.Special) {
	t.Helper()
	if !slices.Equal(got, want) {
		t.Fatalf("%s: %v, want %v", what, got, want)
	}
	spoil(got)
}

func spoil(l []api.Special) {
	l = l[:cap(l)]
	for i := range l {
		l[i] = api.Special{Addr: 77, Kind: 77, Data: 77}
	}
}

// check holds all that is told against the model: of every address there is one at
// (Of), and through all pairs of some addresses (Between).
func check(t *testing.T, what string, s *Specials, w *model, addrs ...uint64) {
	t.Helper()
	if n := s.Count(); n != len(w.l) {
		t.Fatalf("%s: Count: %d, want %d", what, n, len(w.l))
	}
	checkBetween(t, what, s, w, 0, math.MaxUint64)
	checkOf(t, what, s, w, math.MaxUint64)
	for _, x := range w.l {
		checkOf(t, what, s, w, x.Addr)
	}
	for _, a := range addrs {
		checkOf(t, what, s, w, a)
		for _, b := range addrs {
			checkBetween(t, what, s, w, a, b)
		}
	}
	checkList(t, what, s, w)
}

func checkOf(t *testing.T, what string, s *Specials, w *model, addr uint64) {
	t.Helper()
	same(t, fmt.Sprintf("%s: Of(%d)", what, addr), s.Of(addr), w.of(addr))
}

func checkBetween(t *testing.T, what string, s *Specials, w *model, from, to uint64) {
	t.Helper()
	same(t, fmt.Sprintf("%s: Between(%d, %d)", what, from, to), s.Between(from, to), w.between(from, to))
}

// checkList holds the linked list itself: it rises, and has just the model's records.
func checkList(t *testing.T, what string, s *Specials, w *model) {
	t.Helper()
	n := 0
	for r := s.head.next; r != nil; r = r.next {
		if n++; n > len(w.l) || w.place(r.what.Addr, r.what.Kind) < 0 {
			t.Fatalf("%s: %v is in the list, record %d of %d", what, r.what, n, len(w.l))
		}
		if next := r.next; next != nil && !r.comesAhead(next.what.Addr, next.what.Kind) {
			t.Fatalf("%s: %v is linked to %v", what, r.what, next.what)
		}
	}
	if n != len(w.l) || s.head.what != (api.Special{}) {
		t.Fatalf("%s: %d records in the list, want %d; the head is %v", what, n, len(w.l), s.head.what)
	}
}

func checkAdd(t *testing.T, what string, s *Specials, w *model, x api.Special, addrs ...uint64) api.Errno {
	t.Helper()
	e, we := s.Add(x.Addr, x.Kind, x.Data), w.add(x)
	what = fmt.Sprintf("%s: Add %v %d", what, x, e)
	if e != we {
		t.Fatalf("%s, want %d", what, we)
	}
	check(t, what, s, w, addrs...)
	return e
}

func checkRemove(t *testing.T, what string, s *Specials, w *model, addr uint64, kind int, addrs ...uint64) api.Errno {
	t.Helper()
	data, e := s.Remove(addr, kind)
	wdata, we := w.remove(addr, kind)
	what = fmt.Sprintf("%s: Remove(%d, %d) %d, %d", what, addr, kind, data, e)
	if data != wdata || e != we {
		t.Fatalf("%s, want %d, %d", what, wdata, we)
	}
	check(t, what, s, w, addrs...)
	return e
}

func checkTake(t *testing.T, what string, s *Specials, w *model, addr uint64, addrs ...uint64) int {
	t.Helper()
	got, want := s.Take(addr), w.take(addr)
	n := len(got)
	what = fmt.Sprintf("%s: Take(%d) %v", what, addr, got)
	same(t, what, got, want)
	check(t, what, s, w, addrs...)
	return n
}

// made are records, added in that order, and their model.
func made(t *testing.T, l ...api.Special) (*Specials, *model) {
	t.Helper()
	s, w := New(), &model{}
	if s == nil {
		t.Fatal("New: nil")
	}
	check(t, "new", s, w)
	for _, x := range l {
		if e := checkAdd(t, "made", s, w, x); e != api.OK {
			t.Fatalf("Add %v: %d", x, e)
		}
	}
	return s, w
}

// orders are all in which the numbers below n can stand.
func orders(n int) [][]int {
	if n == 0 {
		return [][]int{nil}
	}
	var all [][]int
	for _, o := range orders(n - 1) {
		for at := range n {
			all = append(all, slices.Insert(slices.Clone(o), at, n-1))
		}
	}
	return all
}

// on are records of kinds on an address, with data of their own.
func on(addr uint64, kinds ...int) []api.Special {
	var l []api.Special
	for _, k := range kinds {
		l = append(l, api.Special{Addr: addr, Kind: k, Data: addr*10 + uint64(k)})
	}
	return l
}

func oddKinds() []int {
	return []int{
		math.MinInt, math.MinInt + 1, -1 << 32, -3, -2, -1, 0, 1, 2, 3, 4, 5, 255, 256, 257, 1 << 31, 1 << 32, 1<<32 + 1, 1<<32 + 2,
		1<<32 + 3, math.MaxInt - 1, math.MaxInt,
	}
}

func oddNumbers() []uint64 {
	return []uint64{
		0, 1, 2, 63, 64, 1<<31 - 1, 1 << 31, 1<<32 - 1, 1 << 32, 1<<48 - 1, 1 << 48, 1<<63 - 1, 1 << 63, 1<<63 + 1,
		math.MaxUint64 - 1, math.MaxUint64,
	}
}

func chance(seed uint64) func(n int) int {
	return func(n int) int {
		seed = seed*6364136223846793005 + 1442695040888963407
		return int((seed >> 24) % uint64(n))
	}
}

// shuffled is a list whose order is turned by chance.
func shuffled[T any](l []T, next func(int) int) []T {
	l = slices.Clone(l)
	for i := range l {
		k := next(i + 1)
		l[i], l[k] = l[k], l[i]
	}
	return l
}
