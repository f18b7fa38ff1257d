package fix

import (
	"math"
	"slices"
	"testing"

	"mallow/api"
)

// Ways: given back records are a linked list of pointers.
var (
	_ *given = Fix{}.last
	_ *given = given{}.before
)

var _ interface {
	Take() int
	Give(int) api.Errno
	Live(int) bool
	Count() int
	Bytes() int
} = &Fix{}

// 12.1: the chapter's example.
func TestExample(t *testing.T) {
	f, w := madeFix(t, 6000)
	for _, want := range []int{1, 2, 3} {
		if id := checkTake(t, "example", f, w); id != want {
			t.Errorf("Take: %d, want %d", id, want)
		}
	}
	if f.Bytes() != 32768 {
		t.Error("Bytes: ", f.Bytes())
	}
	checkGive(t, "example", f, w, 1)
	checkGive(t, "example", f, w, 3)
	for _, want := range []int{3, 1, 4} {
		if id := checkTake(t, "example", f, w); id != want {
			t.Errorf("Take: %d, want %d", id, want)
		}
	}
	if e := checkGive(t, "example", f, w, 9); e != api.ErrFree {
		t.Error("Give(9): ", e)
	}
}

// 12.1: sizes at the edges, and wrong ones, beside which there is no store (R3).
func TestNew(t *testing.T) {
	for _, x := range []struct {
		size int
		want api.Errno
	}{
		{math.MinInt, api.ErrArg}, {math.MinInt + 1, api.ErrArg}, {-16384, api.ErrArg}, {-1, api.ErrArg}, {0, api.ErrArg},
		{1, api.OK}, {2, api.OK}, {6000, api.OK}, {8192, api.OK}, {8193, api.OK}, {16383, api.OK}, {16384, api.OK},
		{16385, api.ErrArg}, {32768, api.ErrArg}, {1<<32 + 1, api.ErrArg}, {math.MaxInt, api.ErrArg},
	} {
		f, e := New(x.size)
		if e != x.want || (f == nil) != (e != api.OK) {
			t.Fatalf("New(%d): %v, %d, want %d", x.size, f, e, x.want)
		}
		if f != nil {
			checkFix(t, "new", f, &records{size: x.size})
		}
	}
}

// 12.1: every size that there may be has a store whose first piece has room for
// just as many records as fit.
func TestEachSize(t *testing.T) {
	for size := 1; size <= 16384; size += 1 + size/100 {
		f, w := madeFix(t, size)
		for range min(16384/size+1, 500) {
			f.Take()
			w.take()
			checkSums(t, "each size", f, w)
		}
	}
}

// 12.1: how many bytes one record fewer than fit into one, two, three pieces
// takes, just as many, and one more; giving back turns none of it.
func TestBytes(t *testing.T) {
	for _, x := range []struct{ size, each int }{
		{1, 16384}, {2, 8192}, {3, 5461}, {100, 163}, {5461, 3}, {5462, 2}, {6000, 2}, {8191, 2}, {8192, 2}, {8193, 1}, {16383, 1}, {16384, 1},
	} {
		f, w := madeFix(t, x.size)
		for n := 1; n <= 3*x.each+1; n++ {
			f.Take()
			w.take()
			want := (n + x.each - 1) / x.each * 16384
			if b := f.Bytes(); b != want {
				t.Fatalf("size %d, %d records: Bytes: %d, want %d", x.size, n, b, want)
			}
			checkSums(t, "bytes", f, w)
		}
		bytes := f.Bytes()
		for id := range w.ever + 2 {
			f.Give(id)
			w.give(id)
			checkSums(t, "given", f, w)
		}
		for n := range w.ever {
			if f.Take(); f.Bytes() != bytes || f.Count() != n+1 {
				t.Fatalf("size %d, taken again: Count, Bytes: %d, %d", x.size, f.Count(), f.Bytes())
			}
		}
		if f.Take(); f.Bytes() != (w.ever+x.each)/x.each*16384 {
			t.Errorf("size %d, one more than ever: Bytes: %d", x.size, f.Bytes())
		}
	}
}

// spottedFix is a store of some records of which some are out, some were given
// back, and some of these are out again: 3 and 8 are not out, 8 was given back last.
func spottedFix(t *testing.T) (*Fix, *records) {
	t.Helper()
	f, w := madeFix(t, 5000)
	for range 10 {
		checkTake(t, "spotted", f, w)
	}
	for _, id := range []int{3, 10, 5, 8, 2} {
		checkGive(t, "spotted", f, w, id)
	}
	for range 4 {
		checkTake(t, "spotted", f, w)
	}
	checkGive(t, "spotted", f, w, 8)
	return f, w
}

// 12.1, R2: numbers at the edges: of a new store and of one that is in use; what a
// refused call left behind, the records that are taken then would tell.
func TestGive(t *testing.T) {
	for _, id := range append(oddIDs(10), 3, 4, 5, 7, 8, 9, -3, -8, -10) {
		f, w := madeFix(t, 1)
		checkGive(t, "new", f, w, id)
		for range 3 {
			checkTake(t, "new", f, w)
		}
		f, w = spottedFix(t)
		checkGive(t, "in use", f, w, id)
		checkGive(t, "twice", f, w, id)
		for range 5 {
			checkTake(t, "in use", f, w)
		}
	}
	f, w := spottedFix(t)
	for _, x := range []struct {
		id   int
		want api.Errno
	}{{1, api.OK}, {8, api.ErrFree}, {3, api.ErrFree}, {10, api.OK}, {11, api.ErrFree}, {0, api.ErrFree}, {1, api.ErrFree}} {
		if e := checkGive(t, "in use", f, w, x.id); e != x.want {
			t.Errorf("Give(%d): %d, want %d", x.id, e, x.want)
		}
	}
}

// 12.1: a record that is given back twice comes up once.
func TestGiveTwice(t *testing.T) {
	f, w := madeFix(t, 16)
	for range 3 {
		checkTake(t, "twice", f, w)
	}
	for range 3 {
		checkGive(t, "twice", f, w, 2)
	}
	for _, want := range []int{2, 4, 5} {
		if id := checkTake(t, "twice", f, w); id != want {
			t.Errorf("Take: %d, want %d", id, want)
		}
	}
}

// 12.1: one record given back and taken over and over.
func TestOverAndOver(t *testing.T) {
	f, w := madeFix(t, 16384)
	for i := range 100 {
		if id := checkTake(t, "over", f, w); id != 1 || f.Bytes() != 16384 {
			t.Fatalf("turn %d: Take %d, Bytes %d", i, id, f.Bytes())
		}
		checkGive(t, "over", f, w, 1)
	}
}

// orders are the numbers from 1 to n as they are taken, the other way round, and
// by chance.
func orders(n int) [][]int {
	rising := make([]int, n)
	for i := range rising {
		rising[i] = i + 1
	}
	falling := slices.Clone(rising)
	slices.Reverse(falling)
	all := [][]int{rising, falling}
	for seed := range uint64(4) {
		next := chance(seed)
		l := slices.Clone(rising)
		for i := range l {
			k := next(i + 1)
			l[i], l[k] = l[k], l[i]
		}
		all = append(all, l)
	}
	return all
}

// 12.1, 12.3: records that are given back in many orders are taken again in the
// other one, and behind them the least that was never out.
func TestOrders(t *testing.T) {
	for _, n := range []int{1, 2, 3, 4, 17, 60} {
		for _, order := range orders(n) {
			for back := range n + 1 {
				if n > 4 && back%5 != 2 && back != n {
					continue
				}
				f, w := madeFix(t, 700)
				for range n {
					checkTake(t, "orders", f, w)
				}
				for _, id := range order[:back] {
					checkGive(t, "orders", f, w, id)
				}
				for i := back - 1; i >= 0; i-- {
					if id := checkTake(t, "orders", f, w); id != order[i] {
						t.Fatalf("given back %d: Take: %d, want %d", order[:back], id, order[i])
					}
				}
				if id := checkTake(t, "orders", f, w); id != n+1 {
					t.Fatalf("given back %d: Take: %d, want %d", order[:back], id, n+1)
				}
			}
		}
	}
}

// 12.1: asking does not turn anything.
func TestAskedOften(t *testing.T) {
	f, w := spottedFix(t)
	for range 3 {
		checkFix(t, "asked", f, w)
	}
	if id := checkTake(t, "asked", f, w); id != 8 {
		t.Error("Take: ", id)
	}
}

// R4: two stores, used in turns, don't see one another.
func TestTwoFixes(t *testing.T) {
	a, wa := madeFix(t, 6000)
	b, wb := madeFix(t, 6000)
	next := chance(3)
	for i := range 400 {
		f, w := a, wa
		if i%2 == 1 {
			f, w = b, wb
		}
		if next(5) < 3 {
			checkTake(t, "turns", f, w)
		} else {
			checkGive(t, "turns", f, w, next(w.ever+2))
		}
		checkFix(t, "a", a, wa)
		checkFix(t, "b", b, wb)
	}
}

// 12.1, 12.3: long work with right and wrong inputs of all kinds.
func TestLongWork(t *testing.T) {
	for seed := range uint64(8) {
		next := chance(seed)
		f, w := madeFix(t, 1+next(1<<(7+seed)))
		for i := range 1500 {
			// By turns more is taken, and more is given back.
			takes := 4 + 3*(i/300%2)
			switch n := next(12); {
			case n < takes:
				checkTake(t, "work", f, w)
			case n < 11:
				checkGive(t, "work", f, w, 1+next(w.ever+1))
			default:
				odd := oddIDs(w.ever)
				checkGive(t, "wrong", f, w, odd[next(len(odd))])
			}
		}
	}
}
