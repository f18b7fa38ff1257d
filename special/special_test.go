package special

import (
	"fmt"
	"math"
	"slices"
	"testing"

	"mallow/api"
)

var _ interface {
	Add(uint64, int, uint64) api.Errno
	Remove(uint64, int) (uint64, api.Errno)
	Of(uint64) []api.Special
	Take(uint64) []api.Special
	Between(uint64, uint64) []api.Special
	Count() int
} = New()

// 17.1: the chapter's example, in numbers written out.
func TestExample(t *testing.T) {
	s, w := made(t, api.Special{Addr: 64, Kind: 2, Data: 7}, api.Special{Addr: 64, Kind: 1, Data: 8}, api.Special{Addr: 8, Kind: 3, Data: 9})
	same(t, "Of", s.Of(64), []api.Special{{Addr: 64, Kind: 1, Data: 8}, {Addr: 64, Kind: 2, Data: 7}})
	same(t, "Between", s.Between(0, 64), []api.Special{{Addr: 8, Kind: 3, Data: 9}})
	if e := s.Add(64, 1, 0); e != api.ErrTwice {
		t.Error("Add twice: ", e)
	}
	check(t, "example", s, w)
	if d, e := s.Remove(64, 1); d != 8 || e != api.OK {
		t.Error("Remove: ", d, e)
	}
	same(t, "Take", s.Take(64), []api.Special{{Addr: 64, Kind: 2, Data: 7}})
	if n := s.Count(); n != 1 {
		t.Error("Count: ", n)
	}
	same(t, "what is left", s.Between(0, math.MaxUint64), []api.Special{{Addr: 8, Kind: 3, Data: 9}})
}

// 17.1: the kinds are those of package api, from Finalizer to Weak, and no others.
func TestKinds(t *testing.T) {
	right := []int{api.Finalizer, api.Profile, api.Weak}
	if !slices.Equal(right, []int{1, 2, 3}) {
		t.Fatal("kinds: ", right)
	}
	for kind := -300; kind <= 300; kind++ {
		want := api.ErrArg
		if slices.Contains(right, kind) {
			want = api.OK
		}
		if e := New().Add(64, kind, 7); e != want {
			t.Errorf("kind %d: %d, want %d", kind, e, want)
		}
	}
}

// 17.1: records of some kinds on one address, added in every order, between, behind
// and ahead of other addresses, then removed in every order.
func TestOneAddress(t *testing.T) {
	others := [][]uint64{{}, {63}, {65}, {63, 65}, {0, 63, 65, math.MaxUint64}}
	for _, other := range others {
		for n := 1; n <= 3; n++ {
			for _, in := range orders(3) {
				for _, out := range orders(n) {
					s, w := made(t)
					for _, a := range other {
						checkAdd(t, "other", s, w, api.Special{Addr: a, Kind: 2, Data: a})
					}
					for _, k := range in[:n] {
						checkAdd(t, "in", s, w, api.Special{Addr: 64, Kind: k + 1, Data: uint64(100 * k)}, 63, 64, 65)
					}
					for _, k := range in[:n] {
						if e := checkAdd(t, "twice", s, w, api.Special{Addr: 64, Kind: k + 1, Data: 5}); e != api.ErrTwice {
							t.Fatal("twice: ", e)
						}
					}
					for _, i := range out {
						if e := checkRemove(t, "out", s, w, 64, in[i]+1, 63, 64, 65); e != api.OK {
							t.Fatal("out: ", e)
						}
					}
				}
			}
		}
	}
}

// 17.1: records on up to five addresses, added in every order, then taken in every
// order that there is of three of them.
func TestEveryOrder(t *testing.T) {
	for n := range 6 {
		for i, in := range orders(n) {
			s, w := made(t)
			for _, k := range in {
				checkAdd(t, "in", s, w, api.Special{Addr: uint64(k) * 8, Kind: 1 + (i+k)%3, Data: uint64(i)}, 0, 8, 9, 16)
			}
			all := orders(min(n, 3))
			for _, k := range all[i%len(all)] {
				if got := checkTake(t, "out", s, w, uint64(k)*8, 0, 8, 9, 16); got != 1 {
					t.Fatalf("%d taken", got)
				}
			}
		}
	}
}

// 17.1: records of all kinds on many addresses, added by rising, falling and mixed
// addresses, kind by kind or address by address.
func TestManyAddresses(t *testing.T) {
	var byAddr, byKind []api.Special
	for i := range 40 {
		byAddr = append(byAddr, on(uint64(i)*48, 1, 2, 3)...)
	}
	for kind := 3; kind >= 1; kind-- {
		for i := range 40 {
			byKind = append(byKind, on(uint64(i)*48, kind)...)
		}
	}
	for _, rising := range [][]api.Special{byAddr, byKind} {
		falling := slices.Clone(rising)
		slices.Reverse(falling)
		for _, l := range [][]api.Special{rising, falling, shuffled(rising, chance(1)), shuffled(rising, chance(2))} {
			s, w := made(t, l...)
			check(t, "many", s, w, 0, 1, 47, 48, 49, 20*48, 20*48+1, 39*48, 39*48+1, 40*48)
			same(t, "many", s.Between(0, math.MaxUint64), byAddr)
			for i, x := range l {
				switch e := checkAdd(t, "again", s, w, x); {
				case e != api.ErrTwice:
					t.Fatal("again: ", e)
				case i%2 == 0:
					checkRemove(t, "half", s, w, x.Addr, x.Kind)
				}
			}
		}
	}
}

// 17.1: kinds at the edges, right and wrong, on addresses that have no record, some,
// and all; a wrong kind adds nothing and finds nothing (R2).
func TestOddKinds(t *testing.T) {
	for bitset := range 8 {
		for _, kind := range oddKinds() {
			for _, addr := range []uint64{0, 64, math.MaxUint64} {
				start := on(64, 2)
				if addr == 64 {
					start = nil
				}
				for k := range 3 {
					if bitset>>k&1 != 0 {
						start = append(start, on(addr, k+1)...)
					}
				}
				s, w := made(t, start...)
				checkRemove(t, "kinds", s, w, addr, kind)
				s, w = made(t, start...)
				checkAdd(t, "kinds", s, w, api.Special{Addr: addr, Kind: kind, Data: 1})
				checkRemove(t, "kinds", s, w, addr, kind)
			}
		}
	}
}

// 17.1: addresses and data at the edges, told as they were handed in.
func TestOddNumbers(t *testing.T) {
	for _, addr := range oddNumbers() {
		for _, data := range oddNumbers() {
			s, w := made(t)
			for kind := 1; kind <= 3; kind++ {
				checkAdd(t, "odd", s, w, api.Special{Addr: addr, Kind: kind, Data: data}, addr-1, addr, addr+1)
			}
			if got, e := s.Remove(addr, 2); got != data || e != api.OK {
				t.Fatalf("Remove(%d, 2): %d, %d, want %d", addr, got, e, data)
			}
			same(t, "odd", s.Take(addr), []api.Special{{Addr: addr, Kind: 1, Data: data}, {Addr: addr, Kind: 3, Data: data}})
			if n := s.Count(); n != 0 {
				t.Fatal("Count: ", n)
			}
		}
	}
}

// 17.1: records at all edges at once, asked for from and to each of them: below,
// at and above one another.
func TestBetweenEdges(t *testing.T) {
	var l []api.Special
	for i, a := range oddNumbers() {
		l = append(l, on(a, 1+i%3)...)
	}
	for seed := range uint64(4) {
		s, w := made(t, shuffled(l, chance(seed))...)
		check(t, "edges", s, w, append(oddNumbers(), 3, 65, 1<<33, 1<<62)...)
	}
}

// 17.1: Between has from, and has not to; where to is not above from, it has none.
func TestBetween(t *testing.T) {
	s, _ := made(t, slices.Concat(on(16, 3), on(8, 2, 1), on(24, 1, 2, 3))...)
	for _, x := range []struct {
		from, to uint64
		want     []api.Special
	}{
		{8, 9, on(8, 1, 2)},
		{8, 8, nil},
		{9, 8, nil},
		{0, 8, nil},
		{7, 8, nil},
		{0, 9, on(8, 1, 2)},
		{9, 16, nil},
		{8, 16, on(8, 1, 2)},
		{8, 17, slices.Concat(on(8, 1, 2), on(16, 3))},
		{9, 24, on(16, 3)},
		{16, 24, on(16, 3)},
		{17, 24, nil},
		{16, 25, slices.Concat(on(16, 3), on(24, 1, 2, 3))},
		{24, math.MaxUint64, on(24, 1, 2, 3)},
		{25, math.MaxUint64, nil},
		{24, 8, nil},
		{24, 0, nil},
		{math.MaxUint64, 0, nil},
		{math.MaxUint64, math.MaxUint64, nil},
		{0, 0, nil},
		{0, math.MaxUint64, slices.Concat(on(8, 1, 2), on(16, 3), on(24, 1, 2, 3))},
	} {
		same(t, fmt.Sprintf("Between(%d, %d)", x.from, x.to), s.Between(x.from, x.to), x.want)
	}
}

// 17.1: no Between reaches the greatest address; Of, Remove and Take do.
func TestGreatestAddress(t *testing.T) {
	s, w := made(t, on(math.MaxUint64, 3, 1, 2)...)
	for _, from := range oddNumbers() {
		for _, to := range oddNumbers() {
			same(t, fmt.Sprintf("Between(%d, %d)", from, to), s.Between(from, to), nil)
		}
	}
	same(t, "Of", s.Of(math.MaxUint64), on(math.MaxUint64, 1, 2, 3))
	checkRemove(t, "greatest", s, w, math.MaxUint64, 2)
	checkAdd(t, "greatest", s, w, api.Special{Addr: math.MaxUint64 - 1, Kind: 1, Data: 5})
	same(t, "the one below", s.Between(0, math.MaxUint64), []api.Special{{Addr: math.MaxUint64 - 1, Kind: 1, Data: 5}})
	if n := checkTake(t, "greatest", s, w, math.MaxUint64); n != 2 {
		t.Error("Take: ", n)
	}
}

// 17.1, R2: what a refused Add leaves behind is what was there: the data, too.
func TestRefusedAdd(t *testing.T) {
	s, w := made(t, slices.Concat(on(8, 1, 2, 3), on(16, 1, 3))...)
	for _, kind := range oddKinds() {
		for _, addr := range []uint64{0, 7, 8, 9, 15, 16, 17, math.MaxUint64} {
			if 1 <= kind && kind <= 3 && w.place(addr, kind) < 0 {
				continue
			}
			for _, data := range []uint64{0, 1, 81, math.MaxUint64} {
				e := checkAdd(t, "refused", s, w, api.Special{Addr: addr, Kind: kind, Data: data})
				if e != api.ErrArg && e != api.ErrTwice {
					t.Fatalf("Add(%d, %d): %d", addr, kind, e)
				}
			}
		}
	}
	same(t, "refused", s.Between(0, math.MaxUint64), slices.Concat(on(8, 1, 2, 3), on(16, 1, 3)))
}

// 17.1: Remove of what is not there: another kind, another address, or nothing at
// all; beside ErrNone there is no data (R3).
func TestRemoveNone(t *testing.T) {
	for _, start := range [][]api.Special{nil, on(64, 2), on(64, 1, 3), slices.Concat(on(0, 3), on(64, 2), on(math.MaxUint64, 1))} {
		s, w := made(t, start...)
		for _, kind := range oddKinds() {
			for _, addr := range append(oddNumbers(), 65) {
				if w.place(addr, kind) >= 0 {
					continue
				}
				if e := checkRemove(t, "none", s, w, addr, kind); e != api.ErrNone {
					t.Fatalf("Remove(%d, %d): %d", addr, kind, e)
				}
			}
		}
		same(t, "none", s.Between(0, math.MaxUint64), w.between(0, math.MaxUint64))
	}
}

// 17.1: Take and Remove of the first, of the last, of one amid, of all, of none, in
// lists of few records and of many; each is added again, with other data.
func TestOutAndInAgain(t *testing.T) {
	for n := 1; n <= 6; n++ {
		var l []api.Special
		for i := range n {
			l = append(l, on(uint64(i)*16, []int{1, 2, 3}[:1+i%3]...)...)
		}
		for i := range n {
			addr := uint64(i) * 16
			s, w := made(t, l...)
			if got := checkTake(t, "one", s, w, addr); got != 1+i%3 {
				t.Fatalf("Take(%d): %d", addr, got)
			}
			if got := checkTake(t, "twice", s, w, addr); got != 0 {
				t.Fatalf("Take(%d): %d", addr, got)
			}
			checkTake(t, "none", s, w, addr+1)
			for kind := 3; kind >= 1; kind-- {
				if e := checkAdd(t, "again", s, w, api.Special{Addr: addr, Kind: kind, Data: 1000}); e != api.OK {
					t.Fatal("again: ", e)
				}
			}
		}
		for _, x := range l {
			s, w := made(t, l...)
			if e := checkRemove(t, "one", s, w, x.Addr, x.Kind); e != api.OK {
				t.Fatal("Remove: ", e)
			}
			if e := checkRemove(t, "twice", s, w, x.Addr, x.Kind); e != api.ErrNone {
				t.Fatal("twice: ", e)
			}
			if e := checkAdd(t, "again", s, w, api.Special{Addr: x.Addr, Kind: x.Kind, Data: x.Data + 1}); e != api.OK {
				t.Fatal("again: ", e)
			}
		}
		takeAll(t, n, l)
	}
}

// takeAll takes all records out from each end and by chance, one by one or address
// by address, and adds them again.
func takeAll(t *testing.T, n int, l []api.Special) {
	t.Helper()
	s, w := made(t, l...)
	back := slices.Clone(l)
	slices.Reverse(back)
	for round, out := range [][]api.Special{l, back, shuffled(l, chance(uint64(n)))} {
		for _, x := range out {
			checkTake(t, "all", s, w, x.Addr)
		}
		check(t, "all", s, &model{})
		for _, x := range out {
			checkAdd(t, "all again", s, w, api.Special{Addr: x.Addr, Kind: x.Kind, Data: uint64(round)})
		}
		for _, x := range out {
			checkRemove(t, "all", s, w, x.Addr, x.Kind)
		}
		check(t, "all", s, &model{})
		for _, x := range back {
			checkAdd(t, "all again", s, w, x)
		}
	}
}

// 17.1: an empty list: nothing is told, found or taken.
func TestNone(t *testing.T) {
	s, w := made(t)
	check(t, "none", s, w, oddNumbers()...)
	for _, addr := range oddNumbers() {
		checkTake(t, "none", s, w, addr)
		for _, kind := range oddKinds() {
			checkRemove(t, "none", s, w, addr, kind)
		}
	}
}

// R3: lists that were answered are the caller's own: neither what he writes into
// them or lays behind them nor what is called later turns another one, or what is kept.
func TestOwnLists(t *testing.T) {
	s, w := made(t, slices.Concat(on(8, 1, 2, 3), on(16, 1, 3), on(24, 2))...)
	ask := func() [][]api.Special {
		return [][]api.Special{s.Of(8), s.Between(0, 100), s.Of(8), s.Between(0, 100), s.Between(8, 17), s.Of(24)}
	}
	for i := range ask() {
		lists, want := ask(), ask()
		spoil(lists[i])
		lists[i] = append(lists[i], api.Special{Addr: 5, Kind: 5, Data: 5})
		for k := range lists {
			if k != i && !slices.Equal(lists[k], want[k]) {
				t.Errorf("list %d turned with list %d: %v", k, i, lists[k])
			}
		}
		check(t, "own", s, w, 0, 8, 16, 24, 25)
	}
	before, want := ask(), ask()
	taken := s.Take(8)
	again := s.Take(16)
	spoil(again)
	if !slices.Equal(taken, on(8, 1, 2, 3)) {
		t.Error("taken turned: ", taken)
	}
	s.Add(8, 1, 500)
	s.Add(16, 2, 600)
	s.Remove(24, 2)
	for k := range before {
		if !slices.Equal(before[k], want[k]) {
			t.Errorf("list %d turned with calls: %v", k, before[k])
		}
	}
	spoil(taken)
	same(t, "behind", s.Between(0, 100), []api.Special{{Addr: 8, Kind: 1, Data: 500}, {Addr: 16, Kind: 2, Data: 600}})
}

// R4: two Specials, used in turns, don't see one another.
func TestTwo(t *testing.T) {
	a, wa := made(t)
	b, wb := made(t)
	next := chance(3)
	for i := range 1500 {
		s, w := a, wa
		if i%3 == 1 {
			s, w = b, wb
		}
		step(t, s, w, next, addrsOf(next, 0))
		check(t, "a", a, wa)
		check(t, "b", b, wb)
	}
}

// addrsOf picks addresses by chance: few in a row, edges, many, or the greatest.
func addrsOf(next func(int) int, way int) uint64 {
	switch way {
	case 0:
		return uint64(next(6))
	case 1:
		return oddNumbers()[next(len(oddNumbers()))]
	case 2:
		return uint64(next(60)) * 8192
	default:
		return math.MaxUint64 - uint64(next(8))
	}
}

// step does one call by chance and holds it against the model.
func step(t *testing.T, s *Specials, w *model, next func(int) int, addr uint64) {
	t.Helper()
	kind := 1 + next(3)
	switch next(12) {
	case 0:
		checkAdd(t, "wrong", s, w, api.Special{Addr: addr, Kind: oddKinds()[next(len(oddKinds()))], Data: addr})
	case 1:
		checkRemove(t, "wrong", s, w, addr, oddKinds()[next(len(oddKinds()))])
	case 2, 3:
		checkTake(t, "step", s, w, addr)
	case 4, 5, 6:
		checkRemove(t, "step", s, w, addr, kind)
	case 7:
		checkBetween(t, "step", s, w, addr, addr+uint64(next(10)))
		checkBetween(t, "step", s, w, addr-uint64(next(10)), addr)
	default:
		checkAdd(t, "step", s, w, api.Special{Addr: addr, Kind: kind, Data: uint64(next(1 << 30))})
	}
}

// 17.1: long mixed rows of calls, right and wrong, held against the model behind
// each of them.
func TestLong(t *testing.T) {
	for seed := range uint64(24) {
		next := chance(seed)
		s, w := made(t)
		for range 400 {
			addr := addrsOf(next, int(seed%4))
			step(t, s, w, next, addr)
			check(t, "long", s, w, addr, addr+1, addr-1, 0)
		}
	}
}
