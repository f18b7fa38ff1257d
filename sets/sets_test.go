package sets

import (
	"math"
	"slices"
	"testing"

	"mallow/api"
)

// Ways: each set is a heap in a slice; closures compare.
var (
	_ []*member                     = heap{}.list
	_ func(a, b *member) bool       = heap{}.ahead
	_ func(func(*member) *int) heap = byBase
	_ map[kind]*heap                = side{}.kinds
)

var _ interface {
	Put(id int, base uint64, class int, noptr, full, swept bool) api.Errno
	Take(class int, noptr, full, swept bool) (int, bool)
	Remove(id int) api.Errno
	Least() (int, bool)
	Count(swept bool) int
	Flip() api.Errno
} = New()

// 14.1, 14.2: the chapter's example.
func TestExample(t *testing.T) {
	s := New()
	if a, b := s.Put(1, 90, 5, false, false, true), s.Put(2, 50, 5, false, false, true); a != api.OK || b != api.OK {
		t.Error("Put: ", a, b)
	}
	for _, want := range []int{2, 1, 0} {
		if id, ok := s.Take(5, false, false, true); id != want || ok != (want > 0) {
			t.Errorf("Take: %d, %t, want %d", id, ok, want)
		}
	}
	if e := s.Put(3, 70, 5, false, false, true); e != api.OK {
		t.Error("another Put: ", e)
	}
	if a, b := s.Flip(), s.Flip(); a != api.OK || b != api.ErrState {
		t.Error("Flip: ", a, b)
	}
}

// 14.1, 14.2: new sets have none; all calls but Put find nothing in them.
func TestNew(t *testing.T) {
	s, w := made(t)
	for _, c := range oddClasses() {
		for _, k := range kinds(c) {
			if id, ok := checkTake(t, "new", s, w, k); id != 0 || ok {
				t.Errorf("Take %v: %d, %t", k, id, ok)
			}
		}
	}
	for _, id := range oddIDs() {
		if e := checkRemove(t, "new", s, w, id); e != api.ErrNone {
			t.Errorf("Remove(%d): %d", id, e)
		}
	}
	if id, ok := s.Least(); id != 0 || ok || s.Count(true) != 0 || s.Count(false) != 0 {
		t.Error("Least, Count: ", id, ok, s.Count(true), s.Count(false))
	}
}

// 14.1: which numbers, bases and classes Put takes, in every kind, alone in their
// sets; what it took, Take and Remove find.
func TestPutEdges(t *testing.T) {
	for _, id := range oddIDs() {
		for _, base := range oddBases() {
			for _, c := range oddClasses() {
				for _, k := range kinds(c) {
					putAlone(t, one{id, base, k.class, k.noptr, k.full, k.swept})
				}
			}
		}
	}
}

func putAlone(t *testing.T, x one) {
	t.Helper()
	right := x.id >= 1 && x.class >= 0 && x.class <= 67
	want := api.ErrArg
	if right {
		want = api.OK
	}
	for _, byTake := range []bool{true, false} {
		s, w := made(t)
		if e := checkPut(t, "alone", s, w, x); e != want {
			t.Fatalf("Put %v: %d, want %d", x, e, want)
		}
		if byTake {
			if id, ok := checkTake(t, "alone", s, w, x.of()); ok != right || ok && id != x.id {
				t.Fatalf("%v: Take: %d, %t", x, id, ok)
			}
		} else if e := checkRemove(t, "alone", s, w, x.id); (e == api.OK) != right {
			t.Fatalf("%v: Remove: %d", x, e)
		}
	}
}

// 14.1, R2: ErrArg stands ahead of ErrTwice: of a number below 1, or a class that is
// none, with a base or a number that is there.
func TestSeveralErrors(t *testing.T) {
	s, w := made(t, one{1, 90, 5, false, false, true}, one{2, 50, 0, true, true, false}, one{math.MaxInt, 0, 67, true, false, true})
	for _, x := range []struct {
		id    int
		base  uint64
		class int
		want  api.Errno
	}{
		{0, 90, 5, api.ErrArg}, {-1, 50, 0, api.ErrArg}, {math.MinInt, 0, 67, api.ErrArg}, {0, 7, 68, api.ErrArg}, {-1, 90, -1, api.ErrArg},
		{1, 90, 68, api.ErrArg}, {1, 7, -1, api.ErrArg}, {7, 90, 68, api.ErrArg}, {7, 50, math.MinInt, api.ErrArg}, {math.MaxInt, 0, math.MaxInt, api.ErrArg},
		{1, 90, 5, api.ErrTwice}, {1, 50, 5, api.ErrTwice}, {2, 90, 0, api.ErrTwice}, {1, 7, 67, api.ErrTwice}, {7, 0, 0, api.ErrTwice},
		{math.MaxInt, 7, 1, api.ErrTwice}, {math.MaxInt, 90, 1, api.ErrTwice},
	} {
		for _, k := range kinds(x.class) {
			if e := checkPut(t, "several", s, w, one{x.id, x.base, k.class, k.noptr, k.full, k.swept}); e != x.want {
				t.Errorf("Put %v, %v: %d, want %d", x, k, e, x.want)
			}
		}
	}
	drain(t, "several", s, w)
}

// 14.1: a number that is there with another base, class or kind, and a base that is
// there with another number: refused, and the span stays as it was put.
func TestTwice(t *testing.T) {
	all := kinds(0, 5, 67)
	for i, k := range all {
		x := one{9, 4096, k.class, k.noptr, k.full, k.swept}
		for _, other := range all {
			s, w := made(t, x)
			for _, base := range []uint64{4096, 0, 1, 4095, 4097, math.MaxUint64} {
				if e := checkPut(t, "number", s, w, one{9, base, other.class, other.noptr, other.full, other.swept}); e != api.ErrTwice {
					t.Fatalf("%v, Put with %d, %v: %d", x, base, other, e)
				}
			}
			for _, id := range []int{1, 8, 10, math.MaxInt} {
				if e := checkPut(t, "base", s, w, one{id, 4096, other.class, other.noptr, other.full, other.swept}); e != api.ErrTwice {
					t.Fatalf("%v, Put of %d, %v: %d", x, id, other, e)
				}
			}
			if id, ok := checkTake(t, "as it was", s, w, other); ok != (other == k) || ok && id != 9 {
				t.Fatalf("kind %d: Take %v: %d, %t", i, other, id, ok)
			}
		}
	}
}

// 14.1, 14.3: what was taken or removed can be put again, by its number and by its
// base, together or apart, and is taken once again then.
func TestPutAgain(t *testing.T) {
	for _, k := range kinds(0, 5, 67) {
		for _, other := range kinds(0, 5) {
			for _, byTake := range []bool{true, false} {
				s, w := made(t, one{1, 90, k.class, k.noptr, k.full, k.swept}, one{2, 80, 66, k.noptr, k.full, k.swept})
				if byTake {
					checkTake(t, "again", s, w, k)
				} else {
					checkRemove(t, "again", s, w, 1)
				}
				for _, x := range []one{
					{1, 70, other.class, other.noptr, other.full, other.swept},
					{3, 90, k.class, k.noptr, k.full, k.swept},
				} {
					if e := checkPut(t, "again", s, w, x); e != api.OK {
						t.Fatalf("%v, Put %v: %d", k, x, e)
					}
				}
				checkRemove(t, "again", s, w, 1)
				checkRemove(t, "again", s, w, 3)
				checkPut(t, "the same", s, w, one{1, 90, k.class, k.noptr, k.full, k.swept})
				drain(t, "again", s, w)
			}
		}
	}
}

// orders are bases rising, falling, and mixed in several ways.
func orders(bases []uint64) [][]uint64 {
	rising := slices.Sorted(slices.Values(bases))
	falling := slices.Clone(rising)
	slices.Reverse(falling)
	l := [][]uint64{rising, falling}
	next := chance(uint64(len(bases)))
	for range 6 {
		some := slices.Clone(rising)
		for i := range some {
			k := next(i + 1)
			some[i], some[k] = some[k], some[i]
		}
		l = append(l, some)
	}
	return l
}

// 14.1: bases rising, falling and mixed: Take gives the lowest each time, till none
// is left, and Least is the lowest each time, if they are not swept.
func TestOrder(t *testing.T) {
	many := make([]uint64, 70)
	for i := range many {
		many[i] = uint64(i*i) * 8192
	}
	for _, bases := range [][]uint64{{7}, {1, 0}, oddBases(), many} {
		for _, order := range orders(bases) {
			for _, k := range kinds(5) {
				s, w := made(t, row(k, order...)...)
				for _, base := range slices.Sorted(slices.Values(order)) {
					want := 1 + slices.Index(order, base)
					if id, ok := s.Least(); !k.swept && (id != want || !ok) {
						t.Fatalf("%v, %d: Least %d, %t, want %d", k, order, id, ok, want)
					}
					if id, ok := checkTake(t, "order", s, w, k); id != want || !ok {
						t.Fatalf("%v, %d: Take %d, %t, want %d", k, order, id, ok, want)
					}
				}
				checkTake(t, "order, none left", s, w, k)
			}
		}
	}
}

// 14.1: Take of each kind, where only one span of one kind is there, and where all
// kinds but one are.
func TestOtherKinds(t *testing.T) {
	all := kinds(0, 1, 5, 66, 67)
	for i, k := range all {
		s, w := made(t, one{3, 90, k.class, k.noptr, k.full, k.swept})
		for _, other := range all {
			if other != k {
				if id, ok := checkTake(t, "one kind", s, w, other); id != 0 || ok {
					t.Fatalf("%v is there: Take %v: %d, %t", k, other, id, ok)
				}
			}
		}
		if id, ok := checkTake(t, "its kind", s, w, k); id != 3 || !ok {
			t.Fatalf("Take %v: %d, %t", k, id, ok)
		}
		s, w = made(t, mixed(1, all)...)
		if e := checkRemove(t, "all but one", s, w, i+1); e != api.OK {
			t.Fatal("Remove: ", e)
		}
		if id, ok := checkTake(t, "all but one", s, w, k); id != 0 || ok {
			t.Fatalf("all but %v: Take: %d, %t", k, id, ok)
		}
		drain(t, "all but one", s, w)
	}
}

// 14.1: classes that are none are no kind, and no other kind's either.
func TestTakeClasses(t *testing.T) {
	s, w := made(t, mixed(1, kinds(0, 1, 5, 66, 67))...)
	for _, c := range oddClasses() {
		for _, k := range kinds(c) {
			id, ok := checkTake(t, "classes", s, w, k)
			if want := slices.Contains([]int{0, 1, 66, 67}, c); ok != want || ok != (id != 0) {
				t.Errorf("Take %v: %d, %t", k, id, ok)
			}
		}
	}
	drain(t, "classes", s, w)
}

// 14.1: each of the 68 classes is a set of its own, in each kind.
func TestAllClasses(t *testing.T) {
	s, w := New(), &model{}
	spans := mixed(1, kinds(classes()...))
	for _, x := range spans {
		if e, we := s.Put(x.id, x.base, x.class, x.noptr, x.full, x.swept), w.put(x); e != api.OK || we != api.OK {
			t.Fatalf("Put %v: %d", x, e)
		}
	}
	check(t, "all classes", s, w)
	for _, x := range spans {
		k := x.of()
		if id, ok := s.Take(k.class, k.noptr, k.full, k.swept); id != x.id || !ok {
			t.Fatalf("Take %v: %d, %t, want %d", k, id, ok, x.id)
		}
		if id, ok := s.Take(k.class, k.noptr, k.full, k.swept); id != 0 || ok {
			t.Fatalf("Take %v again: %d, %t", k, id, ok)
		}
	}
	check(t, "all taken", s, &model{})
}

// 14.1: Remove of the first, the last, and each one between, of kinds put in several
// orders; Take gives the others by rising bases.
func TestRemoveEach(t *testing.T) {
	for _, n := range []uint64{1, 2, 3, 4, 7, 8, 15, 22} {
		var bases []uint64
		for i := range n {
			bases = append(bases, 100+i*3)
		}
		for _, order := range orders(bases) {
			for gone := range order {
				k := kinds(9)[gone%8]
				s, w := made(t, row(k, order...)...)
				if e := checkRemove(t, "each", s, w, gone+1); e != api.OK {
					t.Fatalf("Remove(%d) of %d: %d", gone+1, order, e)
				}
				if e := checkRemove(t, "twice", s, w, gone+1); e != api.ErrNone {
					t.Fatalf("Remove(%d) twice: %d", gone+1, e)
				}
				drain(t, "each", s, w)
			}
		}
	}
}

// 14.1: all orders of a few bases; then all pairs are removed, and the rest taken.
func TestAllOrders(t *testing.T) {
	bases := []uint64{0, 10, 20, 30, 40, 50}
	permute(bases, 0, func(order []uint64) {
		for a := range order {
			for b := range order {
				s, w := New(), &model{}
				for _, x := range row(of{3, false, true, false}, order...) {
					s.Put(x.id, x.base, x.class, x.noptr, x.full, x.swept)
					w.put(x)
				}
				if s.Remove(a+1) != w.remove(a+1) || s.Remove(b+1) != w.remove(b+1) {
					t.Fatalf("%d: Remove(%d), Remove(%d)", order, a+1, b+1)
				}
				for len(w.l) > 0 {
					least, _ := s.Least()
					id, _ := s.Take(3, false, true, false)
					if want, _ := w.take(of{3, false, true, false}); id != want || least != want {
						t.Fatalf("%d without %d and %d: Least %d, Take %d, want %d", order, a+1, b+1, least, id, want)
					}
				}
				checkTold(t, "all orders", s, w)
			}
		}
	})
}

func permute(l []uint64, from int, with func([]uint64)) {
	if from == len(l) {
		with(l)
		return
	}
	for i := from; i < len(l); i++ {
		l[from], l[i] = l[i], l[from]
		permute(l, from+1, with)
		l[from], l[i] = l[i], l[from]
	}
}

// 14.1: Remove finds the number alone: of edges that are not there, and that are.
func TestRemoveEdges(t *testing.T) {
	s, w := made(t, one{1, 7, 5, false, false, true}, one{2, 5, 5, false, false, true}, one{math.MaxInt, 6, 6, true, true, false})
	for _, id := range oddIDs() {
		want := api.ErrNone
		if id == 1 || id == 2 || id == math.MaxInt {
			want = api.OK
		}
		if e := checkRemove(t, "edges", s, w, id); e != want {
			t.Errorf("Remove(%d): %d, want %d", id, e, want)
		}
	}
	if s.Count(true)+s.Count(false) != 0 {
		t.Error("Count: ", s.Count(true), s.Count(false))
	}
}

// 14.1: Least goes through all classes and kinds that are not swept, and leaves out
// those that are, even if their bases are lower; it stays, however often it is asked.
func TestLeast(t *testing.T) {
	s, w := made(t)
	for i, x := range []one{
		{1, 10, 5, false, false, true}, {2, 900, 5, false, false, false}, {3, 800, 5, true, false, false}, {4, 850, 5, false, true, false},
		{5, 700, 0, true, true, false}, {6, 0, 67, true, true, true}, {7, 600, 67, false, true, false}, {8, 650, 1, false, false, false},
		{9, 20, 1, true, true, false}, {10, 15, 33, false, false, false}, {11, 1, 33, false, false, false}, {12, 2, 33, false, false, true},
	} {
		checkPut(t, "Least", s, w, x)
		want := []int{0, 2, 3, 3, 5, 5, 7, 7, 9, 10, 11, 11}[i]
		for range 3 {
			if id, ok := s.Least(); id != want || ok != (want > 0) {
				t.Errorf("behind %v: Least %d, %t, want %d", x, id, ok, want)
			}
		}
	}
	for _, want := range []int{11, 10, 9, 7, 8, 5, 3, 4, 2} {
		id, ok := s.Least()
		if id != want || !ok {
			t.Errorf("Least %d, %t, want %d", id, ok, want)
		}
		checkRemove(t, "Least", s, w, id)
	}
	if id, ok := s.Least(); id != 0 || ok || s.Count(true) != 3 {
		t.Errorf("Least %d, %t; Count %d", id, ok, s.Count(true))
	}
	drain(t, "Least", s, w)
}

// 14.2: of empty sets, as often as is asked.
func TestFlipEmpty(t *testing.T) {
	s, w := made(t)
	for range 5 {
		if e := checkFlip(t, "empty", s, w); e != api.OK {
			t.Error("Flip: ", e)
		}
	}
	x := one{1, 1, 1, true, true, true}
	checkPut(t, "empty", s, w, x)
	checkTake(t, "empty", s, w, of{1, true, true, false})
	checkTake(t, "empty", s, w, x.of())
	if e := checkFlip(t, "emptied", s, w); e != api.OK {
		t.Error("Flip: ", e)
	}
}

// 14.2: of sets of swept spans alone: all of them are not swept then, in their
// classes and kinds; a second Flip is refused till they are gone.
func TestFlipSwept(t *testing.T) {
	var swept []of
	for _, k := range kinds(0, 5, 9, 67) {
		if k.swept {
			swept = append(swept, k, k)
		}
	}
	s, w := made(t, mixed(1, swept)...)
	if id, ok := s.Least(); id != 0 || ok {
		t.Error("Least ahead of Flip: ", id, ok)
	}
	if a, b := checkFlip(t, "swept", s, w), checkFlip(t, "twice", s, w); a != api.OK || b != api.ErrState {
		t.Error("Flip: ", a, b)
	}
	if s.Count(true) != 0 || s.Count(false) != len(swept) {
		t.Error("Count: ", s.Count(true), s.Count(false))
	}
	for _, k := range swept {
		if id, ok := checkTake(t, "flipped", s, w, k); id != 0 || ok {
			t.Errorf("Take %v: %d, %t", k, id, ok)
		}
	}
	for n := len(swept); n > 0; n-- {
		if e := checkFlip(t, "not yet", s, w); e != api.ErrState {
			t.Error("Flip: ", e)
		}
		id, _ := s.Least()
		checkRemove(t, "flipped", s, w, id)
	}
	if e := checkFlip(t, "gone", s, w); e != api.OK {
		t.Error("Flip: ", e)
	}
}

// 14.2: one span that is not swept, of any kind, put first, last or between, is
// enough: nothing changes; without it all others turn.
func TestFlipRefused(t *testing.T) {
	var swept []of
	for _, k := range kinds(0, 5) {
		if k.swept {
			swept = append(swept, k)
		}
	}
	for at := range len(swept) + 1 {
		for _, k := range kinds(0, 5, 67) {
			if k.swept {
				continue
			}
			l := slices.Insert(mixed(1, swept), at, one{99, uint64(at) * 3000, k.class, k.noptr, k.full, false})
			s, w := made(t, l...)
			for range 2 {
				if e := checkFlip(t, "refused", s, w); e != api.ErrState {
					t.Fatalf("%v: Flip %d", k, e)
				}
			}
			checkTake(t, "refused", s, w, swept[0])
			if id, ok := checkTake(t, "refused", s, w, k); id != 99 || !ok {
				t.Fatalf("Take %v: %d, %t", k, id, ok)
			}
			if e := checkFlip(t, "without it", s, w); e != api.OK {
				t.Fatalf("%v: Flip %d", k, e)
			}
			drain(t, "without it", s, w)
		}
	}
}

// 14.1, 14.2: Take, Least, Remove and Count behind a Flip, with spans put behind it
// into both generations, through several rounds.
func TestBehindFlip(t *testing.T) {
	s, w := made(t)
	for round := range 7 {
		first := 1 + 1000*round
		checkPut(t, "left", s, w, one{first, uint64(first), 5, false, false, true})
		if e := checkFlip(t, "round", s, w); e != api.OK {
			t.Fatalf("round %d: Flip %d", round, e)
		}
		for _, x := range mixed(first+1, kinds(5, 6)) {
			checkPut(t, "behind", s, w, x)
		}
		if id, ok := s.Least(); id != w.l[w.lowest(func(x one) bool { return !x.swept })].id || !ok {
			t.Fatalf("round %d: Least %d, %t", round, id, ok)
		}
		for _, k := range kinds(5) {
			checkTake(t, "behind", s, w, k)
		}
		checkRemove(t, "behind", s, w, first+12)
		checkRemove(t, "behind", s, w, first)
		for s.Count(false) > 0 {
			id, _ := s.Least()
			x := w.l[w.byID(id)]
			checkRemove(t, "swept", s, w, id)
			if id%3 > 0 {
				x.swept = true
				checkPut(t, "swept", s, w, x)
			}
		}
	}
	drain(t, "behind", s, w)
}

// R4: two sets, used in turns, with the same numbers and bases, don't see one another.
func TestTwoSets(t *testing.T) {
	a, wa := made(t)
	b, wb := made(t)
	next := chance(14)
	for i := range 2000 {
		if i%2 == 0 {
			work(t, "a", a, wa, next)
		} else {
			work(t, "b", b, wb, next)
		}
		check(t, "a", a, wa)
		check(t, "b", b, wb)
	}
	drain(t, "a", a, wa)
	check(t, "b", b, wb)
	drain(t, "b", b, wb)
}

// work is one call by chance, now and then a wrong one.
func work(t *testing.T, what string, s *Sets, w *model, next func(int) int) {
	t.Helper()
	id, base := 1+next(40), uint64(next(60))
	k := of{[]int{0, 5, 67}[next(3)], next(2) == 0, next(4) == 0, next(2) == 0}
	switch next(12) {
	case 0:
		checkFlip(t, what, s, w)
	case 1, 2:
		checkRemove(t, what, s, w, id)
	case 3, 4:
		checkTake(t, what, s, w, k)
	case 5:
		id, _ := s.Least()
		checkRemove(t, what, s, w, id)
	case 6:
		odd := oddClasses()
		k.class = odd[next(len(odd))]
		checkTake(t, what, s, w, k)
	case 7:
		ids, bases, classes := oddIDs(), oddBases(), oddClasses()
		checkPut(t, what, s, w, one{ids[next(len(ids))], bases[next(len(bases))], classes[next(len(classes))], k.noptr, k.full, k.swept})
	default:
		checkPut(t, what, s, w, one{id, base, k.class, k.noptr, k.full, k.swept})
	}
}

// 14.1 to 14.3: long work with right and wrong inputs of all kinds.
func TestLongWork(t *testing.T) {
	for seed := range uint64(8) {
		next := chance(seed)
		s, w := made(t)
		for range 3000 {
			work(t, "work", s, w, next)
			checkShape(t, "work", s)
		}
		drain(t, "work", s, w)
	}
}

// 14.3: of many spans, in rounds as of sweeping, each is taken once, however it goes.
func TestTakenOnce(t *testing.T) {
	const many = 1 << 17
	s := New()
	for i := range many {
		at := i * 40503 % many
		if e := s.Put(at+1, uint64(at)*8192, at%68, at%3 == 0, at%5 == 0, true); e != api.OK {
			t.Fatalf("Put %d: %d", at+1, e)
		}
	}
	if e := s.Flip(); e != api.OK || s.Count(false) != many {
		t.Fatal("Flip: ", e)
	}
	for i := range many {
		id, ok := s.Least()
		if id != i+1 || !ok || s.Remove(id) != api.OK {
			t.Fatalf("Least: %d, %t, want %d", id, ok, i+1)
		}
		if e := s.Put(id, uint64(i)*8192, i%68, i%3 == 0, false, true); e != api.OK {
			t.Fatalf("Put %d: %d", id, e)
		}
	}
	seen := make([]int, many+1)
	for _, k := range kinds(classes()...) {
		last := 0
		for id, ok := s.Take(k.class, k.noptr, k.full, k.swept); ok; id, ok = s.Take(k.class, k.noptr, k.full, k.swept) {
			if id <= last || (id-1)%68 != k.class || (id-1)%3 == 0 != k.noptr || k.full || !k.swept {
				t.Fatalf("Take %v: %d behind %d", k, id, last)
			}
			last = id
			seen[id]++
		}
	}
	if n := slices.Index(seen[1:], 0); n >= 0 || slices.Max(seen) != 1 || s.Count(true) != 0 {
		t.Error("not taken once: ", n+1, slices.Max(seen))
	}
}
