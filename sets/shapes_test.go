package sets

import (
	"math"
	"testing"

	"mallow/api"
)

// checkShape holds what is kept against itself: every span in the heap of its side
// and in that of its kind, at the places that it knows, and nothing else.
func checkShape(t *testing.T, what string, s *Sets) {
	t.Helper()
	all, inKinds := 0, 0
	for i := range s.sides {
		d := &s.sides[i]
		all += d.count()
		checkHeap(t, what, s, &d.all, func(m *member) bool { return m.side == i })
		for k, h := range d.kinds {
			inKinds += len(h.list)
			if len(h.list) == 0 {
				t.Fatalf("%s: side %d: an empty heap of %v", what, i, k)
			}
			checkHeap(t, what, s, h, func(m *member) bool { return m.side == i && m.kind == k })
		}
	}
	if n := len(s.spans); all != n || inKinds != n || len(s.bases) != n {
		t.Fatalf("%s: %d spans, %d in the sides, %d in the kinds, %d bases", what, n, all, inKinds, len(s.bases))
	}
}

func checkHeap(t *testing.T, what string, s *Sets, h *heap, belongs func(*member) bool) {
	t.Helper()
	for at, m := range h.list {
		if *h.place(m) != at || !belongs(m) || s.spans[m.id] != m || !s.hasBase(m.base) {
			t.Fatalf("%s: %v at %d", what, *m, at)
		}
		if up := (at - 1) / 2; at > 0 && h.list[up].base >= m.base {
			t.Fatalf("%s: base %d at %d above %d at %d", what, h.list[up].base, up, m.base, at)
		}
	}
	for _, m := range h.list[len(h.list):cap(h.list)] {
		if m != nil {
			t.Fatalf("%s: span %d is kept behind the end", what, m.id)
		}
	}
}

// R6: what is kept does not grow with the numbers that are handed in.
func TestGreatNumbers(t *testing.T) {
	s := New()
	for i := range 1000 {
		if e := s.Put(math.MaxInt-i, math.MaxUint64-uint64(i), 67, true, true, i%2 == 0); e != api.OK {
			t.Fatalf("Put %d: %d", i, e)
		}
	}
	checkShape(t, "great", s)
	if len(s.spans) != 1000 || len(s.sides[0].kinds) != 1 || len(s.sides[1].kinds) != 1 {
		t.Error("kept: ", len(s.spans), len(s.sides[0].kinds), len(s.sides[1].kinds))
	}
	if id, ok := s.Least(); id != math.MaxInt-999 || !ok {
		t.Error("Least: ", id, ok)
	}
}

// R6, R2: neither calls that are refused or find nothing nor spans that are gone
// leave anything behind.
func TestKeptNothing(t *testing.T) {
	s := New()
	for i := range 20000 {
		class := i % 68
		s.Put(i+1, uint64(i)*8192, class, i%2 == 0, i%3 == 0, true)
		s.Put(i+1, uint64(i+1)*8192, class, false, false, false)
		s.Put(i+2, uint64(i)*8192, class, false, false, false)
		s.Put(-i, 7, class, false, false, false)
		s.Put(i+2, 7, 68+i, false, false, false)
		s.Take(class, i%2 == 0, i%3 == 0, false)
		s.Take(class+1, i%2 == 0, i%3 == 0, true)
		s.Take(68+i, false, false, true)
		s.Remove(i + 2)
		if i%7 == 0 {
			s.Flip()
			s.Remove(i + 1)
			s.Flip()
		} else {
			s.Take(class, i%2 == 0, i%3 == 0, true)
		}
	}
	checkShape(t, "nothing", s)
	for i, d := range s.sides {
		if len(s.spans) != 0 || d.count() != 0 || len(d.kinds) != 0 || cap(d.all.list) > 4 {
			t.Errorf("side %d: %d spans, %d kinds, room for %d", i, d.count(), len(d.kinds), cap(d.all.list))
		}
	}
}

// R1: sets that nobody made are empty, and can be used.
func TestZeroSets(t *testing.T) {
	for flips := range 3 {
		s, w := &Sets{}, &model{}
		check(t, "zero", s, w)
		checkTake(t, "zero", s, w, of{5, false, false, true})
		checkRemove(t, "zero", s, w, 1)
		for range flips {
			checkFlip(t, "zero", s, w)
		}
		checkPut(t, "zero", s, w, one{0, 1, 5, false, false, true})
		for _, x := range mixed(1, kinds(0, 5)) {
			checkPut(t, "zero", s, w, x)
			checkShape(t, "zero", s)
		}
		drain(t, "zero", s, w)
	}
}

// The heap: members removed from every place of heaps of every length, so that the
// last one must rise, sink or stay where they stood.
func TestHeapRemove(t *testing.T) {
	for n := range 34 {
		for seed := range uint64(12) {
			for gone := range n {
				removeFrom(t, n, gone, chance(seed))
			}
		}
	}
}

func removeFrom(t *testing.T, n, gone int, next func(int) int) {
	t.Helper()
	h := byBase(func(m *member) *int { return &m.inAll })
	all := make([]*member, n)
	for i := range all {
		all[i] = &member{id: i + 1, base: uint64(next(1000)*n + i)}
		h.add(all[i])
	}
	h.remove(all[gone])
	last := uint64(0)
	for left := n - 1; left > 0; left-- {
		m := h.first()
		if m == nil || m == all[gone] || m.base < last || len(h.list) != left {
			t.Fatalf("%d less %d: %v behind %d, %d left", n, gone, m, last, left)
		}
		last = m.base
		h.remove(m)
	}
	if h.first() != nil {
		t.Fatalf("%d less %d: %v is left", n, gone, h.first())
	}
}
