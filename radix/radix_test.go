package radix

import (
	"fmt"
	"math"
	"slices"
	"testing"

	"mallow/api"
)

// Ways: levels are a slice of maps from row numbers to summaries.
var _ []map[uint64]summary = Tree{}.levels

var _ interface {
	Grow(uint64, uint64) api.Errno
	Find(uint64) (uint64, bool)
	Alloc(uint64) (uint64, uint64, api.Errno)
	Take(uint64, uint64) (uint64, api.Errno)
	Give(uint64, uint64) api.Errno
	Back(uint64, uint64) api.Errno
	Scavenge(uint64) (uint64, uint64)
	Sum(int, uint64) (api.Sum, api.Errno)
	State(uint64) (bool, bool, bool)
	Hint() uint64
	Free() uint64
	Released() uint64
} = New()

// 9.1 to 9.5: the chapter's examples.
func TestExamples(t *testing.T) {
	r := New()
	if e, f := r.Grow(1, 2), r.Grow(2, 1); e != api.OK || f != api.ErrTwice {
		t.Error("Grow: ", e, f)
	}
	if p, ok := r.Find(1); p != 512 || !ok {
		t.Error("Find(1): ", p, ok)
	}
	if p, n, e := r.Alloc(600); p != 512 || n != 600 || e != api.OK {
		t.Error("Alloc(600): ", p, n, e)
	}
	if p, ok := r.Find(1); p != 1112 || !ok {
		t.Error("Find(1) again: ", p, ok)
	}
	if n, e := r.Take(512, 1); n != 0 || e != api.ErrUsed {
		t.Error("Take(512, 1): ", n, e)
	}
	if e := r.Give(512, 1); e != api.OK {
		t.Error("Give(512, 1): ", e)
	}
	if p, n, e := r.Alloc(2); p != 1112 || n != 2 || e != api.OK {
		t.Error("Alloc(2): ", p, n, e)
	}
	if s, e := r.Sum(3, 1); s != (api.Sum{Start: 1, Max: 1}) || e != api.OK {
		t.Error("Sum(3, 1): ", s, e)
	}
	if s, e := r.Sum(3, 0); s != (api.Sum{}) || e != api.OK {
		t.Error("Sum(3, 0): ", s, e)
	}
	if s, e := r.Sum(4, 0); s != (api.Sum{}) || e != api.ErrArg {
		t.Error("Sum(4, 0): ", s, e)
	}
	if is, isFree, isBack := r.State(512); !is || !isFree || isBack {
		t.Error("State(512): ", is, isFree, isBack)
	}
	if is, isFree, isBack := r.State(0); is || isFree || isBack {
		t.Error("State(0): ", is, isFree, isBack)
	}
	if r.Free() != 423 || r.Released() != 422 {
		t.Error("Free, Released: ", r.Free(), r.Released())
	}
}

// 9.1 to 9.5: a tree without chunks, asked for everything.
func TestEmpty(t *testing.T) {
	r, m := New(), newModel()
	check(t, "new", r, m)
	for _, n := range lengths() {
		checkAlloc(t, "empty", r, m, n)
		for _, at := range places(m) {
			checkTake(t, "empty", r, m, at, n)
			checkGive(t, "empty", r, m, at, n)
			checkBack(t, "empty", r, m, at, n)
		}
	}
	for _, most := range mosts() {
		checkScavenge(t, "empty", r, m, most)
	}
	if kept(r) != 0 {
		t.Error("it keeps ", kept(r))
	}
}

// 9.1: all edges as chunk and as n, in an empty tree.
func TestGrowEdges(t *testing.T) {
	chunks := []uint64{0, 1, 7, 8, 511, 512, 1<<18 - 1, 1 << 18, 1<<18 + 1, 1<<26 - 1<<18 - 1, 1<<26 - 1<<18, 1<<26 - 1<<18 + 1, 1<<26 - 2, 1<<26 - 1, 1 << 26, 1<<26 + 1, 1 << 55, 1 << 63, math.MaxUint64 - 1<<18, math.MaxUint64 - 1, math.MaxUint64}
	ns := []uint64{0, 1, 2, 8, 64, 512, 513, 1<<18 - 1, 1 << 18, 1<<18 + 1, 1<<26 - 1, 1 << 26, 1<<26 + 1, 1 << 55, 1 << 63, math.MaxUint64 - 1<<18, math.MaxUint64 - 1, math.MaxUint64}
	for _, c := range chunks {
		for _, n := range ns {
			checkGrow(t, "empty", New(), newModel(), c, n)
		}
	}
}

// 9.1: chunk and n together on both sides of 2^26.
func TestGrowBound(t *testing.T) {
	for _, n := range []uint64{1, 2, 3, 100, 1<<18 - 1, 1 << 18} {
		if e := New().Grow(1<<26-n, n); e != api.OK {
			t.Errorf("Grow(2^26 - %d, %d): %d", n, n, e)
		}
		for over := uint64(1); over <= n; over = 2*over + 1 {
			if e := New().Grow(1<<26-n+over, n); e != api.ErrArg {
				t.Errorf("Grow(2^26 - %d + %d, %d): %d", n, over, n, e)
			}
		}
	}
}

// 9.1: chunks that are in use at the begin, in the middle, at the end of those
// that are asked for, and right beside them, whatever their pages are.
func TestGrowTwice(t *testing.T) {
	for _, asked := range []run{{1000, 1}, {1000, 2}, {1000, 9}, {1000, 65}, {512, 512}, {505, 1030}, {1<<18 - 3, 1 << 18}} {
		for _, there := range []uint64{asked.chunk - 1, asked.chunk, asked.chunk + 1, asked.chunk + asked.n/2, asked.chunk + asked.n - 1, asked.chunk + asked.n} {
			for _, p := range kinds() {
				m := modelOf(p, run{there, 1})
				r := m.tree()
				name := fmt.Sprint(p, " in chunk ", there)
				checkGrow(t, name, r, m, asked.chunk, asked.n)
				checkGrow(t, name, r, m, asked.chunk, asked.n)
				checkGrow(t, name, r, m, there, 1)
			}
		}
	}
}

// 9.1: what is wrong with the numbers is told ahead of chunks that are in use.
func TestGrowWrongAheadOfTwice(t *testing.T) {
	m := modelOf(isReleased, run{0, 1}, run{1<<26 - 1, 1})
	r := m.tree()
	for _, x := range []run{{0, 0}, {0, 1<<18 + 1}, {1<<26 - 1, 0}, {1<<26 - 1, 2}, {0, math.MaxUint64}, {1, math.MaxUint64}, {1<<26 - 1, math.MaxUint64}} {
		if e := r.Grow(x.chunk, x.n); e != api.ErrArg {
			t.Errorf("Grow(%d, %d): %d", x.chunk, x.n, e)
		}
	}
	check(t, "refused", r, m)
}

// 9.1: a tree grows into its gaps and on its sides, and what is there stays.
func TestGrowBeside(t *testing.T) {
	r, m := New(), newModel()
	for _, x := range []run{{8, 2}, {11, 1}, {10, 1}, {7, 1}, {0, 7}, {12, 500}, {600, 4}, {512, 88}, {1<<26 - 1, 1}, {1<<26 - 3, 2}} {
		checkGrow(t, "beside", r, m, x.chunk, x.n)
		checkTake(t, "beside", r, m, 512*x.chunk+3, 500)
		checkGive(t, "beside", r, m, 512*x.chunk+400, 100)
	}
}

// eachShape calls with each shape, as a tree and as a model, beside one another.
func eachShape(t *testing.T, call func(t *testing.T, name string, r *Tree, m *model)) {
	t.Helper()
	for _, s := range shapes() {
		t.Run(s.name, func(t *testing.T) {
			t.Parallel()
			r := s.pages.tree()
			check(t, s.name, r, s.pages)
			call(t, s.name, r, s.pages)
		})
	}
}

// 9.1 to 9.6, R2: edges as pages and as lengths, in trees of all kinds, with what
// is told behind each call and behind each one that was refused.
func TestEdges(t *testing.T) {
	calls := []func(*testing.T, string, *Tree, *model, uint64, uint64){checkTake, checkGive, checkBack}
	eachShape(t, func(t *testing.T, name string, made *Tree, shape *model) {
		next := chance(uint64(len(name)))
		r, m := copyOf(made), shape.clone()
		for _, at := range places(m) {
			for _, n := range append(lengths(), allPages-at, -at) {
				// Not all of them in each shape, as that would take long.
				if next(8) > 0 {
					continue
				}
				calls[next(3)](t, name, r, m, at, n)
				if !slices.Equal(*m, *shape) {
					r, m = copyOf(made), shape.clone()
				}
			}
		}
	})
}

// 9.2: in trees of all kinds each row of free pages, and each row of used ones:
// as long as it goes, a page less at either end, and a page more at either end.
func TestWholeStretches(t *testing.T) {
	eachShape(t, func(t *testing.T, name string, made *Tree, m *model) {
		list := *m
		if len(list) > 8 {
			list = append(list[:4:4], list[len(list)-4:]...)
		}
		for _, s := range list {
			for _, x := range [][2]uint64{{s.first, s.end}, {s.first + 1, s.end}, {s.first, s.end - 1}, {s.first - 1, s.end}, {s.first, s.end + 1}} {
				r, other := copyOf(made), m.clone()
				checkGive(t, name, r, other, x[0], x[1]-x[0])
				checkTake(t, name, r, other, x[0], x[1]-x[0])
				checkBack(t, name, r, other, x[0], x[1]-x[0])
			}
		}
	})
}

// 9.2: each n in trees of all kinds, till there is no place for it any more or
// it was found three times.
func TestAllocEdges(t *testing.T) {
	eachShape(t, func(t *testing.T, name string, r *Tree, m *model) {
		for _, n := range lengths() {
			for range 3 {
				if _, ok := m.find(n); !ok {
					break
				}
				checkAlloc(t, name, r, m, n)
			}
			checkAlloc(t, name, r, m, n)
		}
	})
}

// 9.2: rows of free pages across chunks: one is found only if it is long enough,
// an earlier one that is too short is passed over.
func TestFindAcross(t *testing.T) {
	for _, chunks := range []uint64{1, 2, 7, 8, 9, 16, 63, 64, 65, 511, 512, 513, 4095, 4096, 4097, 1 << 18} {
		for _, first := range []uint64{0, 1, 7, 63, 511} {
			for _, trim := range []uint64{0, 1, 100, 511} {
				m := modelOf(isUsed, run{first, 2*chunks + 8})
				short, long := 512*first+1, 512*(first+chunks+2)+trim
				n := 512*(chunks+2) - 2*trim
				m.set(short, short+n/4, isIdle)
				m.set(long, long+n, isIdle)
				m.set(long+n/2, long+n, isReleased)
				r := m.tree()
				for _, ask := range []uint64{1, n/4 - 1, n / 4, n/4 + 1, n - 1, n, n + 1} {
					want, is := m.find(ask)
					if got, ok := r.Find(ask); got != want || ok != is {
						t.Fatalf("%d chunks from %d on, less %d: Find(%d): %d, %v; want %d, %v", chunks, first, trim, ask, got, ok, want, is)
					}
				}
			}
		}
	}
}

// 9.2: free pages on both sides of a gap are no row, and a gap that is closed
// makes them one.
func TestAcrossGap(t *testing.T) {
	for _, gap := range []uint64{1, 7, 8, 63, 64, 511, 512, 1<<12 - 1, 1 << 12, 1<<18 - 1, 1 << 18} {
		m := modelOf(isReleased, run{gap - 1, 1}, run{gap + 1, 1})
		r := m.tree()
		first := 512 * (gap - 1)
		checkTake(t, "gap", r, m, first, 513)
		checkTake(t, "gap", r, m, first+511, 514)
		checkTake(t, "gap", r, m, first+512, 512)
		checkTake(t, "gap", r, m, first+1023, 2)
		checkAlloc(t, "gap", r, m, 513)
		checkGrow(t, "gap", r, m, gap, 1)
		checkAlloc(t, "closed", r, m, 1536)
		checkGive(t, "closed", r, m, first+500, 600)
		checkBack(t, "closed", r, m, first+1100, 436)
		checkTake(t, "closed", r, m, first+500, 1036)
	}
}

// 9.2, R2: a row across some chunks of which one page is unlike the others, at its
// begin, in its middle, at its end, and right outside of it.
func TestOnePageUnlike(t *testing.T) {
	for _, chunks := range []uint64{1, 2, 8, 9, 65, 513} {
		for _, trim := range []uint64{0, 1, 200} {
			first, end := 512*6+trim, 512*(6+chunks)-trim
			for _, odd := range []uint64{first - 1, first, first + 1, first + (end-first)/2, 512 * (6 + chunks - 1), end - 1, end} {
				for _, p := range []page{isIdle, isReleased} {
					name := fmt.Sprint(chunks, " chunks less ", trim, ", page ", odd)
					m := modelOf(p, run{5, chunks + 2})
					m.set(odd, odd+1, isUsed)
					checkTake(t, name, m.tree(), m, first, end-first)

					m = modelOf(isUsed, run{5, chunks + 2})
					m.set(odd, odd+1, p)
					checkGive(t, name, m.tree(), m, first, end-first)

					m = modelOf(isUsed, run{5, chunks + 2})
					m.set(odd, odd+1, p)
					checkBack(t, name, m.tree(), m, first, end-first)
				}
			}
		}
	}
}

// 9.2: pages that were released, and not, in one row that is taken.
func TestTakeOfBoth(t *testing.T) {
	r := New()
	r.Grow(3, 70)
	first := uint64(3 * 512)
	r.Take(first, 70*512)
	r.Give(first+100, 1000)
	r.Back(first+1100, 9*512)
	r.Give(first+1100+9*512, 65*512-1100-9*512)
	for _, x := range [][3]uint64{{first + 100, 1, 0}, {first + 101, 998, 0}, {first + 1099, 2, 1}, {first + 1101, 512, 512}, {first + 1613, 63*512 - 1613, 9*512 - 513}, {first + 63*512, 1024, 0}} {
		if n, e := r.Take(x[0], x[1]); n != x[2] || e != api.OK {
			t.Errorf("Take(%d, %d): %d, %d; want %d", x[0], x[1], n, e, x[2])
		}
	}
	if r.Free() != 0 || r.Released() != 0 {
		t.Error("Free, Released: ", r.Free(), r.Released())
	}
	r.Back(first, 70*512)
	if p, n, e := r.Alloc(70 * 512); p != first || n != 70*512 || e != api.OK {
		t.Error("Alloc of all: ", p, n, e)
	}
}

// 9.2: where a row does not lie in the tree, this is told ahead of what its pages
// are; a row without pages lies nowhere.
func TestAddrAheadOfState(t *testing.T) {
	rUsed, rFree := modelOf(isUsed, run{1, 2}, run{1<<26 - 1, 1}).tree(), modelOf(isIdle, run{1, 2}, run{1<<26 - 1, 1}).tree()
	for _, x := range [][2]uint64{{512, 0}, {1535, 0}, {0, 0}, {1536, 0}, {511, 1}, {511, 2}, {1535, 2}, {1536, 1}, {512, 1025}, {0, 2048}, {allPages - 1, 2}, {allPages - 1, 0}, {allPages - 513, 1}, {allPages - 513, 514}, {allPages, 0}, {allPages, 1}, {512, math.MaxUint64}, {512, math.MaxUint64 - 511}, {math.MaxUint64, 1}, {math.MaxUint64, math.MaxUint64}, {math.MaxUint64, 514}} {
		if n, e := rUsed.Take(x[0], x[1]); n != 0 || e != api.ErrAddr {
			t.Errorf("Take%v of what is used: %d, %d", x, n, e)
		}
		if e := rFree.Give(x[0], x[1]); e != api.ErrAddr {
			t.Errorf("Give%v of what is free: %d", x, e)
		}
		if e := rFree.Back(x[0], x[1]); e != api.ErrAddr {
			t.Errorf("Back%v of what is free: %d", x, e)
		}
	}
}

// 9.3: each most, in trees of all kinds.
func TestScavengeOnce(t *testing.T) {
	eachShape(t, func(t *testing.T, name string, made *Tree, m *model) {
		for _, most := range mosts() {
			checkScavenge(t, name, copyOf(made), m.clone(), most)
		}
	})
}

// 9.3: rows end at chunks, and the highest chunk comes first, even if it has less.
func TestScavengeEdges(t *testing.T) {
	for _, x := range []struct{ first, n, most, at, long uint64 }{
		{512, 1, 1, 512, 1}, {1023, 1, 1, 1023, 1}, {1023, 2, 2, 1024, 1}, {1023, 2, math.MaxUint64, 1024, 1},
		{512, 512, 512, 512, 512}, {512, 512, 513, 512, 512}, {512, 512, 511, 513, 511}, {512, 513, 513, 1024, 1}, {512, 1024, 1024, 1024, 512}, {512, 1024, 1, 1535, 1},
		{100, 4096, math.MaxUint64, 4096, 100}, {100, 4096, 100, 4096, 100}, {100, 4096, 99, 4097, 99}, {100, 4096, 101, 4096, 100}, {0, 513 * 512, 1 << 40, 512 * 512, 512},
		{0, 1 << 20, math.MaxUint64, 1<<20 - 512, 512}, {700, 20, 0, 0, 0}, {700, 20, 19, 701, 19}, {0, 1, 1, 0, 1},
	} {
		for _, around := range []page{isUsed, isReleased} {
			m := modelOf(around, run{0, 1 << 12})
			m.set(x.first, x.first+x.n, isIdle)
			r := m.tree()
			if at, long := r.Scavenge(x.most); at != x.at || long != x.long {
				t.Errorf("%d pages from %d on: Scavenge(%d): %d, %d; want %d, %d", x.n, x.first, x.most, at, long, x.at, x.long)
			}
			m.set(x.at, x.at+x.long, isReleased)
			check(t, "scavenged", r, m)
		}
	}
}

// 9.3: again and again, from the highest page down, until all free pages are
// released.
func TestScavengeAll(t *testing.T) {
	for _, most := range []uint64{100, 512, math.MaxUint64} {
		for _, s := range []shape{byChance(4), byChance(44), turns(isUsed, isIdle), {"seventy", modelOf(isIdle, run{3, 70})}, {"ends", modelOf(isIdle, run{0, 1}, run{1<<26 - 1, 1})}} {
			m := s.pages
			r := m.tree()
			isFree, end := r.Free(), uint64(allPages)
			for r.Released() < isFree {
				at, n := r.Scavenge(most)
				if wantAt, want := m.scavenge(most); at != wantAt || n != want || n == 0 || at+n > end {
					t.Fatalf("%s: Scavenge(%d): %d, %d behind %d; want %d, %d", s.name, most, at, n, end, wantAt, want)
				}
				end = at
			}
			check(t, s.name, r, m)
			if at, n := r.Scavenge(most); at != 0 || n != 0 || r.Free() != isFree {
				t.Errorf("%s: Scavenge(%d) at the end: %d, %d", s.name, most, at, n)
			}
		}
	}
}

// 9.4: each page of some chunks, one by one.
func TestStateOfEach(t *testing.T) {
	for _, s := range []shape{byChance(5), byChance(55), turns(isReleased, isUsed)} {
		r := s.pages.tree()
		for at := range uint64(75 * 512) {
			want := s.pages.state(at)
			if is, isFree, isBack := r.State(at); (page{is, isFree, isBack}) != want {
				t.Fatalf("%s: State(%d): %v %v %v; want %v", s.name, at, is, isFree, isBack, want)
			}
		}
	}
}

// 9.4: all pages of chunks in use that are below the hint are used; here the only
// free page moves through the tree.
func TestHint(t *testing.T) {
	m := modelOf(isUsed, run{2, 600})
	r := m.tree()
	for _, at := range []uint64{1024, 1025, 1535, 1536, 4095, 4096, 32767, 32768, 262143, 262144, 602*512 - 1} {
		r.Give(at, 1)
		if hint := r.Hint(); hint > at {
			t.Errorf("%d is free: Hint: %d", at, hint)
		}
		r.Take(at, 1)
	}
	// Behind calls that lower it.
	r.Give(300000, 1)
	r.Hint()
	r.Give(2000, 1)
	if hint := r.Hint(); hint > 2000 {
		t.Error("Hint behind Give: ", hint)
	}
	r.Take(2000, 1)
	r.Hint()
	r.Grow(0, 1)
	if hint := r.Hint(); hint > 0 {
		t.Error("Hint behind Grow: ", hint)
	}
}

// 9.5: levels and rows that are there, and those that are not.
func TestSumEdges(t *testing.T) {
	last := [4]uint64{1<<17 - 1, 1<<20 - 1, 1<<23 - 1, 1<<26 - 1}
	pages := [4]int{1 << 18, 1 << 15, 1 << 12, 1 << 9}
	r := New()
	r.Grow(1<<26-512, 512)
	r.Grow(0, 512)
	for level := range 4 {
		whole := api.Sum{Start: pages[level], Max: pages[level], End: pages[level]}
		for _, i := range []uint64{0, last[level]} {
			if s, e := r.Sum(level, i); s != whole || e != api.OK {
				t.Errorf("Sum(%d, %d): %v, %d", level, i, s, e)
			}
		}
		for _, i := range []uint64{last[level] / 2, last[level]/2 + 1} {
			if s, e := r.Sum(level, i); s != (api.Sum{}) || e != api.OK {
				t.Errorf("Sum(%d, %d): %v, %d", level, i, s, e)
			}
		}
		for _, i := range []uint64{last[level] + 1, last[level] + 2, 2 * (last[level] + 1), 1 << 35, 1 << 63, math.MaxUint64 - last[level], math.MaxUint64} {
			if s, e := r.Sum(level, i); s != (api.Sum{}) || e != api.ErrArg {
				t.Errorf("Sum(%d, %d): %v, %d", level, i, s, e)
			}
		}
	}
	for _, level := range []int{-1, 4, 5, 6, 7, -2, -3, -4, 1 << 32, -1 << 32, math.MaxInt, math.MaxInt - 3, math.MinInt, math.MinInt + 3} {
		for _, i := range []uint64{0, 1, 1 << 26, math.MaxUint64} {
			if s, e := r.Sum(level, i); s != (api.Sum{}) || e != api.ErrArg {
				t.Errorf("Sum(%d, %d): %v, %d", level, i, s, e)
			}
		}
	}
}

// 9.5: pages of chunks that are not in use count as used, in rows of each level
// that have only some in use.
func TestSumOfGaps(t *testing.T) {
	r := New()
	for _, x := range []run{{0, 1}, {2, 2}, {7, 2}, {20, 30}, {511, 2}} {
		r.Grow(x.chunk, x.n)
	}
	for _, x := range []struct {
		level int
		i     uint64
		want  api.Sum
	}{
		{3, 0, api.Sum{Start: 512, Max: 512, End: 512}}, {3, 1, api.Sum{}},
		{2, 0, api.Sum{Start: 512, Max: 1024, End: 512}}, {2, 1, api.Sum{Start: 512, Max: 512}}, {2, 2, api.Sum{Max: 2048, End: 2048}}, {2, 3, api.Sum{Start: 4096, Max: 4096, End: 4096}}, {2, 6, api.Sum{Start: 1024, Max: 1024}}, {2, 7, api.Sum{}},
		{1, 0, api.Sum{Start: 512, Max: 15360}}, {1, 1, api.Sum{}}, {1, 7, api.Sum{Max: 512, End: 512}},
		{0, 0, api.Sum{Start: 512, Max: 15360, End: 512}}, {0, 1, api.Sum{Start: 512, Max: 512}}, {0, 2, api.Sum{}},
	} {
		if s, e := r.Sum(x.level, x.i); s != x.want || e != api.OK {
			t.Errorf("Sum(%d, %d): %v, %d; want %v", x.level, x.i, s, e, x.want)
		}
	}
}

// 9.6: what is taken and given back leaves all else as it was; free and used
// pages together are 512 for each chunk.
func TestTakenAndBack(t *testing.T) {
	eachShape(t, func(t *testing.T, name string, r *Tree, m *model) {
		chunks := m.count(0, allPages, in) / 512
		for _, n := range lengths() {
			first, ok := r.Find(n)
			if !ok {
				continue
			}
			were := m.part(first, first+n)
			r.Take(first, n)
			usedPages := m.count(0, allPages, in) - m.count(0, allPages, free) + n
			if r.Free()+usedPages != 512*chunks {
				t.Fatalf("%s: %d are free and %d used, in %d chunks", name, r.Free(), usedPages, chunks)
			}
			for _, s := range were {
				if s.released {
					r.Back(s.first, s.end-s.first)
				} else {
					r.Give(s.first, s.end-s.first)
				}
			}
			check(t, name, r, m)
		}
	})
}

// 9.1 to 9.4: all pages there are, in as few calls as they can be named with.
func TestWholeSpace(t *testing.T) {
	r, m := New(), newModel()
	for k := range uint64(256) {
		if e := r.Grow(k<<18, 1<<18); e != api.OK {
			t.Fatalf("Grow(%d, 2^18): %d", k<<18, e)
		}
		m.grow(k<<18, 1<<18)
	}
	checkGrow(t, "all", r, m, 1<<26-1, 1)
	checkAlloc(t, "all", r, m, allPages+1)
	checkAlloc(t, "all", r, m, allPages)
	checkAlloc(t, "all", r, m, 1)
	checkGive(t, "all", r, m, 0, allPages)
	checkScavenge(t, "all", r, m, math.MaxUint64)
	checkTake(t, "all", r, m, 1, allPages-2)
	checkBack(t, "all", r, m, 2, allPages-4)
	checkAlloc(t, "all", r, m, allPages-4)
	checkGive(t, "all", r, m, 1, allPages-2)
	checkAlloc(t, "all", r, m, allPages)
	checkBack(t, "all", r, m, 0, allPages)
	if kept(r) != 1 {
		t.Error("all pages are alike, and it keeps ", kept(r))
	}
}

// R6: what is kept grows with the calls, not with the numbers they are handed;
// and what was given back is kept no longer.
func TestKeptIsFewAndForgotten(t *testing.T) {
	r := New()
	next := chance(66)
	const most = 2 * (mostBelow + 8*(chunkDepth-1) + 1) // along both ends of a row of pages
	for k := range uint64(256) {
		before := kept(r)
		r.Grow(k<<18|k&1, 1<<18-k&1)
		if now := kept(r); now > before+most {
			t.Fatalf("Grow keeps %d, and kept %d", now, before)
		}
	}
	grown := kept(r)
	var taken []stretch
	for range 2000 {
		before := kept(r)
		n := 1 + next(1<<next(35))
		if first, _, e := r.Alloc(n); e == api.OK {
			taken = append(taken, stretch{first: first, end: first + n})
		}
		if now := kept(r); now > before+most+256 {
			t.Fatalf("Alloc(%d) keeps %d, and kept %d", n, now, before)
		}
	}
	if len(taken) < 100 {
		t.Fatal("so few were found: ", len(taken))
	}
	for _, s := range taken {
		if e := r.Back(s.first, s.end-s.first); e != api.OK {
			t.Fatal("Back: ", e)
		}
	}
	if kept(r) != grown {
		t.Errorf("it keeps %d, and kept %d", kept(r), grown)
	}
	checkKept(t, "all back", r)
}

// R4: two trees in turns don't see one another.
func TestTreesAreApart(t *testing.T) {
	next := chance(94)
	trees, models := [2]*Tree{New(), New()}, [2]*model{newModel(), newModel()}
	for range 600 {
		k := next(2)
		work(t, next, trees[k], models[k], span{6, 22})
		check(t, "the other", trees[1-k], models[1-k])
	}
}

// work does one call by chance, mostly with pages of the chunks of a span.
func work(t *testing.T, next func(uint64) uint64, r *Tree, m *model, chunks span) {
	t.Helper()
	all := 512 * chunks.pages()
	first := 512*chunks.first + next(all)
	n := next(next(next(all)+1) + 2)
	switch next(11) {
	case 0:
		checkGrow(t, "by chance", r, m, chunks.first+next(chunks.pages()), min(1+next(next(chunks.pages())+1), 1<<18))
	case 1:
		checkTake(t, "by chance", r, m, first, n)
	case 2, 3, 4:
		checkAlloc(t, "by chance", r, m, n)
	case 5:
		checkGive(t, "by chance", r, m, first, n)
	case 6:
		checkBack(t, "by chance", r, m, first, n)
	case 7:
		checkScavenge(t, "by chance", r, m, n)
	default:
		giveRow(t, next, r, m, first)
	}
}

// giveRow gives, or sends back, used pages from one on, as far as they go or not
// so far: by chance alone a row of which all pages are used would hardly be met.
func giveRow(t *testing.T, next func(uint64) uint64, r *Tree, m *model, first uint64) {
	t.Helper()
	s := m.part(first, allPages)[0]
	end := s.end
	if next(2) == 0 {
		end -= next(end - first)
	}
	if next(2) == 0 {
		checkGive(t, "a row", r, m, first, end-first)
	} else {
		checkBack(t, "a row", r, m, first, end-first)
	}
}

// 9.1 to 9.6: trees that are worked on for long, against the model: of few chunks
// and of many, where rows of each depth meet, and of all there are.
func TestAgainstModel(t *testing.T) {
	for _, chunks := range []span{{0, 3}, {6, 20}, {60, 130}, {500, 530}, {400, 1100}, {4090, 4100}, {1<<18 - 20, 1<<18 + 20}, {1<<26 - 9, 1 << 26}, {3, 1 << 19}, {0, 1 << 26}} {
		t.Run(fmt.Sprint(chunks), func(t *testing.T) {
			t.Parallel()
			for seed := range uint64(3) {
				next := chance(900 + seed)
				r, m := New(), newModel()
				for range 400 {
					work(t, next, r, m, chunks)
				}
			}
		})
	}
}

// R1, R2: every number of the whole range ends with an answer.
func TestAllNumbers(t *testing.T) {
	numbers := []uint64{0, math.MaxUint64}
	for k := range 64 {
		p := uint64(1) << k
		numbers = append(numbers, p-1, p, p+1, -p)
	}
	m := modelOf(isIdle, run{0, 3}, run{7, 60}, run{1<<26 - 5, 5})
	m.set(600, 1100, isUsed)
	m.set(512*20, 512*40, isUsed)
	m.set(allPages-1, allPages, isUsed)
	r := m.tree()
	for _, a := range numbers {
		for _, b := range numbers {
			other := m.clone()
			wantGrow := other.grow(a, b)
			_, wantTake := other.take(a, b)
			wantBack := other.give(a, b, isReleased)
			if wantGrow != api.OK && wantTake != api.OK && wantBack != api.OK {
				_, take := r.Take(a, b)
				if grow, give, back := r.Grow(a, b), r.Give(a, b), r.Back(a, b); grow != wantGrow || take != wantTake || give != wantBack || back != wantBack {
					t.Fatalf("(%d, %d): %d, %d, %d, %d; want %d, %d, %d", a, b, grow, take, give, back, wantGrow, wantTake, wantBack)
				}
			}
			for level := -1; level <= 4; level++ {
				want, e := m.sum(level, a)
				if got, code := r.Sum(level, a); got != want || code != e {
					t.Fatalf("Sum(%d, %d): %v, %d", level, a, got, code)
				}
			}
		}
		if is, isFree, isBack := r.State(a); (page{is, isFree, isBack}) != m.state(a) {
			t.Fatalf("State(%d): %v %v %v", a, is, isFree, isBack)
		}
		checkAlloc(t, "all numbers", copyOf(r), m.clone(), a)
		checkScavenge(t, "all numbers", copyOf(r), m.clone(), a)
	}
	check(t, "all numbers", r, m)
}
