package special

import (
	"math"
	"slices"
	"testing"

	"mallow/api"
)

// R6: what is kept is the records that are there, whatever number was handed in and
// however often records come and go.
func TestKept(t *testing.T) {
	s, w := New(), &model{}
	next := chance(9)
	for i := range 3000 {
		addr, kind := uint64(next(4))<<62+uint64(next(4)), 1+next(3)
		s.Add(addr, kind+3, math.MaxUint64)
		s.Add(addr, -kind, math.MaxUint64)
		s.Remove(addr+8, kind)
		s.Remove(addr, math.MaxInt)
		s.Take(addr + 8)
		switch i % 5 {
		case 0:
			s.Remove(addr, kind)
			w.remove(addr, kind)
		case 1:
			s.Take(addr)
			w.take(addr)
		default:
			x := api.Special{Addr: addr, Kind: kind, Data: uint64(i)}
			s.Add(x.Addr, x.Kind, x.Data)
			w.add(x)
		}
		checkList(t, "kept", s, w)
	}
}

// R6: a call that is refused, and one that finds none, makes nothing.
func TestNothingMade(t *testing.T) {
	s, _ := made(t, slices.Concat(on(8, 1, 2, 3), on(math.MaxUint64, 1))...)
	if n := testing.AllocsPerRun(100, func() {
		s.Add(8, 4, 1)
		s.Add(8, 1, 1)
		s.Remove(9, 1)
		s.Remove(8, 0)
		s.Of(9)
		s.Take(7)
		s.Between(9, math.MaxUint64)
		s.Between(math.MaxUint64, 0)
		s.Count()
	}); n != 0 {
		t.Errorf("%v allocations a turn", n)
	}
}

// 'Ways': the records stand in the linked list itself, and one that stays is
// neither moved nor made anew where others come and go.
func TestLinked(t *testing.T) {
	s, w := made(t, slices.Concat(on(8, 1), on(16, 2), on(24, 3))...)
	stays := s.head.next.next
	checkAdd(t, "linked", s, w, api.Special{Addr: 16, Kind: 1, Data: 1})
	checkAdd(t, "linked", s, w, api.Special{Addr: 16, Kind: 3, Data: 3})
	checkTake(t, "linked", s, w, 8)
	checkTake(t, "linked", s, w, 24)
	if s.head.next.next != stays || stays.what != on(16, 2)[0] {
		t.Error("not the same record: ", stays.what)
	}
}

// R1: many records: every call ends at the list's end.
func TestManyRecords(t *testing.T) {
	s := New()
	for i := range 6000 {
		s.Add(uint64(i*2999%6000), 1+i%3, uint64(i))
	}
	l := s.Between(0, math.MaxUint64)
	if len(l) != 6000 || s.Count() != 6000 {
		t.Fatal("records: ", len(l), s.Count())
	}
	for addr := range l {
		if l[addr].Addr != uint64(addr) {
			t.Fatalf("record %d: %v", addr, l[addr])
		}
	}
	for i := range 6000 {
		if got := s.Take(uint64(i * 4001 % 6000)); len(got) != 1 {
			t.Fatalf("Take %d: %v", i, got)
		}
	}
	if s.Count() != 0 || s.head.next != nil {
		t.Error("left: ", s.Count())
	}
}

// R1: Specials that nobody made are none, and can be used.
func TestZeroSpecials(t *testing.T) {
	s, w := &Specials{}, &model{}
	check(t, "zero", s, w, oddNumbers()...)
	checkTake(t, "zero", s, w, 0)
	checkRemove(t, "zero", s, w, 0, 0)
	checkAdd(t, "zero", s, w, api.Special{})
	for _, x := range slices.Concat(on(0, 3, 1), on(64, 2)) {
		checkAdd(t, "zero", s, w, x)
	}
	checkRemove(t, "zero", s, w, 0, 1)
	checkTake(t, "zero", s, w, 64)
}
