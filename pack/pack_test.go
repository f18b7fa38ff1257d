package pack

import (
	"go/ast"
	"go/parser"
	"go/token"
	"math"
	"slices"
	"testing"

	"mallow/api"
)

// wantPack holds Pack against a word, or against ErrArg.
func wantPack(t *testing.T, s api.Sum, want uint64, e api.Errno) {
	t.Helper()
	if w, got := Pack(s); w != want || got != e {
		t.Errorf("Pack(%v): %d, %d; want %d, %d", s, w, got, want, e)
	}
}

func wantUnpack(t *testing.T, w uint64, want api.Sum, e api.Errno) {
	t.Helper()
	if s, got := Unpack(w); s != want || got != e {
		t.Errorf("Unpack(%#x): %v, %d; want %v, %d", w, s, got, want, e)
	}
}

func wantMerge(t *testing.T, l []api.Sum, pages int, want api.Sum) {
	t.Helper()
	if got, e := Merge(l, pages); got != want || e != api.OK {
		t.Fatalf("Merge(%v, %d): %v, %d; want %v", l, pages, got, e, want)
	}
}

func wantFits(t *testing.T, l []api.Sum, pages, n, want int, is bool) {
	t.Helper()
	if got, ok, e := Fits(l, pages, n); got != want || ok != is || e != api.OK {
		t.Fatalf("Fits(%v, %d, %d): %d, %v, %d; want %d, %v", l, pages, n, got, ok, e, want, is)
	}
}

// wantRefused: neither Merge nor Fits takes these rows, and nothing but the
// error is told.
func wantRefused(t *testing.T, l []api.Sum, pages int) {
	t.Helper()
	if got, e := Merge(l, pages); got != (api.Sum{}) || e != api.ErrArg {
		t.Errorf("Merge(%v, %d): %v, %d", l, pages, got, e)
	}
	for _, n := range []int{math.MinInt, -1, 0, 1, 2, pages, math.MaxInt} {
		wantNoFits(t, l, pages, n)
	}
}

func wantNoFits(t *testing.T, l []api.Sum, pages, n int) {
	t.Helper()
	if at, ok, e := Fits(l, pages, n); at != 0 || ok || e != api.ErrArg {
		t.Errorf("Fits(%v, %d, %d): %d, %v, %d", l, pages, n, at, ok, e)
	}
}

// 7.2 to 7.4: the chapter's examples.
func TestExamples(t *testing.T) {
	l := []api.Sum{sum(8, 8, 8), sum(3, 4, 2)}
	wantMerge(t, l, 8, sum(11, 11, 2))
	wantFits(t, l, 8, 9, 0, true)
	wantFits(t, l, 8, 4, 0, true)
	wantFits(t, l, 8, 12, 0, false)
	l = []api.Sum{sum(0, 2, 1), sum(2, 3, 0)}
	wantFits(t, l, 8, 3, 7, true)
	wantFits(t, l, 8, 2, 0, true)
	wantPack(t, sum(1, 2, 1), 4398050705409, api.OK)
	wantPack(t, whole(2097152), 9223372036854775808, api.OK)
	wantPack(t, sum(3, 2, 1), 0, api.ErrArg)
}

// 7.2: where each of the three stands in the word.
func TestPlacesInWord(t *testing.T) {
	wantPack(t, sum(0, 0, 0), 0, api.OK)
	wantPack(t, sum(0, 1, 0), 1<<21, api.OK)
	wantPack(t, sum(1, 1, 0), 1|1<<21, api.OK)
	wantPack(t, sum(0, 1, 1), 1<<21|1<<42, api.OK)
	wantPack(t, sum(1, 1, 1), 1|1<<21|1<<42, api.OK)
	wantPack(t, sum(3, 5, 2), 3|5<<21|2<<42, api.OK)
	wantPack(t, sum(0, top-1, 0), (top-1)<<21, api.OK)
	wantPack(t, sum(top-1, top-1, 0), 1<<42-1, api.OK)
	wantPack(t, sum(0, top-1, top-1), 1<<63-1<<21, api.OK)
	wantPack(t, sum(top-1, top-1, top-1), 1<<63-1, api.OK)
	wantPack(t, whole(top), 1<<63, api.OK)
}

// 7.2, R1: each edge and far number for each of the three.
func TestPackEdges(t *testing.T) {
	eachSum(numbers(8), func(s api.Sum) {
		switch {
		case !wordable(s):
			wantPack(t, s, 0, api.ErrArg)
		case s == whole(top):
			wantPack(t, s, 1<<63, api.OK)
		default:
			wantPack(t, s, uint64(s.Start)+uint64(s.Max)*top+uint64(s.End)*top*top, api.OK)
		}
	})
}

// 7.2: one or two of the three are 2^21, or one is just outside the bounds.
func TestPackNotAllTop(t *testing.T) {
	for _, s := range []api.Sum{
		sum(top, 0, 0), sum(0, top, 0), sum(0, 0, top), sum(top, top, 0), sum(top, 0, top), sum(0, top, top),
		sum(top-1, top, top-1), sum(top, top, top-1), sum(top-1, top, top), sum(top, top-1, top),
		sum(top+1, top+1, top+1), sum(top, top+1, top), sum(top+1, top, top), sum(top, top, top+1), sum(0, top+1, 0),
		sum(-1, 0, 0), sum(0, -1, 0), sum(0, 0, -1), sum(-1, -1, -1), sum(-1, top, top), sum(top, top, -1),
		sum(1, 0, 0), sum(0, 0, 1), sum(2, 1, 1), sum(1, 1, 2),
	} {
		wantPack(t, s, 0, api.ErrArg)
	}
	// A word may hold what is not right for 2^21 pages: 7.2 does not ask for it.
	wantPack(t, sum(top/2, top/2, top/2), top/2|top/2<<21|top/2<<42, api.OK)
}

// 7.2: words of all kinds: those with the highest bit, and those of which Start
// or End is above Max, are none.
func TestUnpack(t *testing.T) {
	fields := []uint64{0, 1, 2, 3, 1 << 10, 1<<20 - 1, 1 << 20, 1<<20 + 1, 1<<21 - 2, 1<<21 - 1}
	for _, start := range fields {
		for _, most := range fields {
			for _, end := range fields {
				w := start | most<<21 | end<<42
				if start > most || end > most {
					wantUnpack(t, w, api.Sum{}, api.ErrArg)
				} else {
					wantUnpack(t, w, sum(int(start), int(most), int(end)), api.OK)
				}
				if w != 0 {
					wantUnpack(t, w|1<<63, api.Sum{}, api.ErrArg)
				}
			}
		}
	}
	wantUnpack(t, 1<<63, whole(top), api.OK)
}

// 7.2: words of one bit, of all but one, of all below one, and with the highest
// bit beside another.
func TestUnpackBits(t *testing.T) {
	wantUnpack(t, 0, sum(0, 0, 0), api.OK)
	wantUnpack(t, 1<<64-1, api.Sum{}, api.ErrArg)
	wantUnpack(t, 1<<63-1, sum(top-1, top-1, top-1), api.OK)
	for i := range 63 {
		w := uint64(1) << i
		if i >= 21 && i < 42 {
			wantUnpack(t, w, sum(0, 1<<(i-21), 0), api.OK)
		} else {
			wantUnpack(t, w, api.Sum{}, api.ErrArg)
		}
		wantUnpack(t, w|1<<63, api.Sum{}, api.ErrArg)
		wantUnpack(t, ^w, api.Sum{}, api.ErrArg)
		wantUnpack(t, ^(w - 1), api.Sum{}, api.ErrArg)
	}
}

// 7.5: Unpack(Pack(s)) is s, and no other summary stands in the word.
func TestThereAndBack(t *testing.T) {
	eachSum(numbers(512), func(s api.Sum) {
		if w, e := Pack(s); e == api.OK {
			wantUnpack(t, w, s, api.OK)
		}
	})
	next := chance(7)
	for range 100000 {
		most := next(top)
		s := sum(next(most+1), most, next(most+1))
		w, e := Pack(s)
		if e != api.OK {
			t.Fatalf("Pack(%v): %d", s, e)
		}
		wantUnpack(t, w, s, api.OK)
		w = uint64(next(1<<31))<<33 ^ uint64(next(1<<31))<<15 ^ uint64(next(1<<31))
		if s, e := Unpack(w); e == api.OK {
			wantPack(t, s, w, api.OK)
		}
	}
}

// 7.1, 7.3, 7.4: which summaries are right, for rows of few and of many pages:
// with each edge and far number for each of the three.
func TestRight(t *testing.T) {
	for _, pages := range []int{1, 2, 3, 7, 8, 512, top/2 + 1, top - 1, top} {
		eachSum(numbers(pages), func(s api.Sum) {
			l := []api.Sum{s}
			if isRight(s, pages) {
				wantMerge(t, l, pages, s)
				return
			}
			if got, e := Merge(l, pages); got != (api.Sum{}) || e != api.ErrArg {
				t.Errorf("Merge(%v, %d): %v, %d", l, pages, got, e)
			}
			wantNoFits(t, l, pages, 1)
		})
	}
}

// 7.1: every summary there is around rows of few pages.
func TestRightOfFew(t *testing.T) {
	for pages := 1; pages <= 9; pages++ {
		var around []int
		for x := -2; x <= pages+2; x++ {
			around = append(around, x)
		}
		eachSum(around, func(s api.Sum) {
			want := api.ErrArg
			if isRight(s, pages) {
				want = api.OK
			}
			if _, e := Merge([]api.Sum{s}, pages); e != want {
				t.Errorf("Merge([%v], %d): %d", s, pages, e)
			}
			if _, _, e := Fits([]api.Sum{s}, pages, 1); e != want {
				t.Errorf("Fits([%v], %d, 1): %d", s, pages, e)
			}
		})
	}
}

// 7.1: each reason for which a summary is not right, by itself where it can be.
func TestNotRight(t *testing.T) {
	for _, s := range []api.Sum{
		sum(-1, 0, 0), sum(0, -1, 0), sum(0, 0, -1), sum(9, 9, 9), sum(8, 9, 8), sum(0, 9, 0),
		sum(2, 1, 0), sum(0, 1, 2), sum(1, 0, 0), sum(0, 0, 1),
		sum(0, 8, 0), sum(8, 8, 0), sum(0, 8, 8), sum(8, 8, 7), sum(7, 8, 8), sum(7, 8, 0), sum(8, 7, 7),
		sum(4, 4, 4), sum(4, 7, 4), sum(7, 7, 1), sum(1, 7, 7), sum(5, 5, 4), sum(7, 7, 7),
		sum(math.MaxInt, math.MaxInt, math.MaxInt), sum(math.MinInt, 1, 1), sum(1, math.MaxInt, 1), sum(1, math.MinInt, 1), sum(0, math.MaxInt, math.MinInt),
	} {
		wantRefused(t, []api.Sum{s}, 8)
	}
	// What no row of pages could be is right, if 7.1 does not rule it out.
	for _, s := range []api.Sum{sum(0, 0, 0), sum(0, 7, 0), sum(3, 4, 2), sum(3, 7, 4), sum(4, 4, 3), sum(7, 7, 0), sum(0, 7, 7), whole(8)} {
		wantMerge(t, []api.Sum{s}, 8, s)
	}
}

// 7.3, 7.4: one that is not right, at each place among rows that are.
func TestNotRightAnywhere(t *testing.T) {
	for _, bad := range []api.Sum{sum(0, 8, 0), sum(-1, 0, 0), sum(4, 4, 4), sum(0, 0, 1), whole(9)} {
		for _, good := range []api.Sum{whole(8), sum(0, 0, 0), sum(1, 2, 1)} {
			for _, long := range []int{2, 3, 64} {
				for i := range long {
					l := rows(long, good)
					l[i] = bad
					wantRefused(t, l, 8)
				}
			}
		}
	}
}

// 7.3, 7.4: the bounds of pages, with rows and without.
func TestPages(t *testing.T) {
	for _, pages := range numbers(8) {
		lists := [][]api.Sum{nil, {}, {{}}, rows(2, whole(pages)), rows(64, api.Sum{})}
		for _, l := range lists {
			if pages < 1 || pages > top {
				wantRefused(t, l, pages)
				continue
			}
			wantMerge(t, l, pages, merged(l, pages))
			wantFits(t, l, pages, 1, 0, len(l) > 0 && l[0].Max > 0)
		}
	}
}

// 7.3, 7.4: no summaries, one, 64 and 65, and many more.
func TestHowManyRows(t *testing.T) {
	for _, pages := range []int{1, 2, 8, top - 1, top} {
		for _, long := range []int{0, 1, 2, 63, 64} {
			all := pages * long
			l := rows(long, whole(pages))
			wantMerge(t, l, pages, whole(all))
			wantFits(t, l, pages, max(all, 1), 0, long > 0)
			wantFits(t, l, pages, all+1, 0, false)
			wantMerge(t, rows(long, api.Sum{}), pages, api.Sum{})
			wantFits(t, rows(long, api.Sum{}), pages, 1, 0, false)
		}
		for _, long := range []int{65, 66, 128, 1 << 16} {
			wantRefused(t, rows(long, whole(pages)), pages)
			wantRefused(t, rows(long, api.Sum{}), pages)
		}
	}
}

// 7.3: rows that are free from end to end at the begin, in the middle, at the
// end, all of them, and rows without a free page.
func TestMerge(t *testing.T) {
	all, none := whole(8), sum(0, 0, 0)
	for _, x := range []struct {
		l    []api.Sum
		want api.Sum
	}{
		{nil, none},
		{[]api.Sum{none, none, none}, none},
		{[]api.Sum{all, all, all}, whole(24)},
		{[]api.Sum{all, all, sum(2, 3, 1)}, sum(18, 18, 1)},
		{[]api.Sum{sum(2, 3, 1), all, all}, sum(2, 17, 17)},
		{[]api.Sum{sum(2, 3, 1), all, sum(4, 5, 3)}, sum(2, 13, 3)},
		{[]api.Sum{sum(2, 3, 1), all, all, sum(4, 5, 3)}, sum(2, 21, 3)},
		{[]api.Sum{all, sum(2, 3, 1), all}, sum(10, 10, 9)},
		{[]api.Sum{all, none, all}, sum(8, 8, 8)},
		{[]api.Sum{none, all, none}, sum(0, 8, 0)},
		{[]api.Sum{all, none, none}, sum(8, 8, 0)},
		{[]api.Sum{none, none, all}, sum(0, 8, 8)},
		{[]api.Sum{sum(1, 2, 2), sum(3, 3, 0)}, sum(1, 5, 0)},
		{[]api.Sum{sum(1, 7, 2), sum(3, 3, 0)}, sum(1, 7, 0)},
		{[]api.Sum{sum(1, 2, 2), sum(3, 7, 0)}, sum(1, 7, 0)},
		{[]api.Sum{sum(0, 0, 0), sum(3, 3, 0)}, sum(0, 3, 0)},
		{[]api.Sum{sum(3, 3, 0), sum(0, 2, 2)}, sum(3, 3, 2)},
		{[]api.Sum{sum(1, 4, 3), sum(2, 2, 2), sum(3, 3, 0)}, sum(1, 5, 0)},
	} {
		wantMerge(t, x.l, 8, x.want)
	}
	wantRefused(t, []api.Sum{sum(1, 1, 2), sum(3, 3, 0)}, 8)
}

// 7.4: the pages across rows: where they begin, and what goes ahead of them.
func TestFits(t *testing.T) {
	all, none := whole(8), sum(0, 0, 0)
	for _, x := range []struct {
		l       []api.Sum
		n, want int
		ok      bool
	}{
		{nil, 1, 0, false},
		{[]api.Sum{none}, 1, 0, false},
		{[]api.Sum{all}, 1, 0, true},
		{[]api.Sum{all}, 8, 0, true},
		{[]api.Sum{all}, 9, 0, false},
		{[]api.Sum{none, none, all}, 8, 16, true},
		{[]api.Sum{none, all, all}, 9, 8, true},
		{[]api.Sum{none, all, all}, 17, 0, false},
		{[]api.Sum{sum(0, 3, 3), all, sum(2, 2, 0)}, 13, 5, true},
		{[]api.Sum{sum(0, 3, 3), all, sum(2, 2, 0)}, 14, 0, false},
		{[]api.Sum{sum(0, 3, 3), all, sum(2, 2, 0)}, 8, 5, true},
		{[]api.Sum{sum(0, 3, 3), all, sum(2, 2, 0)}, 3, 0, true},
		{[]api.Sum{sum(0, 3, 3), all, all, sum(2, 2, 0)}, 21, 5, true},
		// No page at the first row's end: they begin in the next.
		{[]api.Sum{sum(3, 3, 0), all, sum(2, 2, 0)}, 10, 8, true},
		{[]api.Sum{sum(3, 3, 0), all, sum(2, 2, 0)}, 11, 0, false},
		// A row with a great Max ahead of the row in which they begin.
		{[]api.Sum{sum(0, 5, 0), sum(0, 2, 2), sum(3, 3, 0)}, 5, 0, true},
		{[]api.Sum{none, sum(0, 5, 0), sum(0, 2, 2), sum(3, 3, 0)}, 5, 8, true},
		{[]api.Sum{sum(0, 4, 0), sum(0, 2, 2), sum(3, 3, 0)}, 5, 14, true},
		// In it.
		{[]api.Sum{none, sum(0, 5, 2), sum(3, 3, 0)}, 5, 8, true},
		{[]api.Sum{none, sum(0, 4, 2), sum(3, 3, 0)}, 5, 14, true},
		// Behind it.
		{[]api.Sum{none, sum(0, 2, 2), sum(3, 5, 0)}, 5, 14, true},
		{[]api.Sum{none, sum(0, 2, 2), sum(3, 7, 0)}, 6, 16, true},
		{[]api.Sum{none, sum(0, 2, 2), sum(3, 3, 0), sum(0, 7, 0)}, 5, 14, true},
		{[]api.Sum{none, sum(0, 2, 2), sum(3, 3, 0), sum(0, 7, 0)}, 6, 24, true},
		// The first of several rows with a great Max, and of several places.
		{[]api.Sum{none, sum(0, 5, 0), sum(0, 6, 0), all}, 5, 8, true},
		{[]api.Sum{sum(0, 2, 2), sum(3, 3, 1), sum(4, 4, 0)}, 5, 6, true},
		{[]api.Sum{sum(0, 1, 1), sum(3, 3, 2), sum(3, 3, 0)}, 5, 14, true},
		// Rows that do not meet.
		{[]api.Sum{sum(0, 3, 3), none, sum(3, 3, 0)}, 4, 0, false},
		{[]api.Sum{sum(3, 3, 0), sum(0, 3, 3)}, 4, 0, false},
	} {
		wantFits(t, x.l, 8, x.n, x.want, x.ok)
	}
}

// 7.4: n below 1 is refused, and none is too great to be asked for.
func TestWrongN(t *testing.T) {
	for _, l := range [][]api.Sum{nil, {whole(8)}, {sum(4, 4, 3), whole(8)}, rows(64, whole(8)), rows(64, api.Sum{})} {
		for _, n := range []int{math.MinInt, math.MinInt + 1, -1 << 32, -512, -8, -1, 0} {
			wantNoFits(t, l, 8, n)
		}
		for _, n := range []int{513, 1 << 21, 1 << 32, 1 << 62, math.MaxInt - 8, math.MaxInt - 1, math.MaxInt} {
			wantFits(t, l, 8, n, 0, false)
		}
	}
}

// 7.3, 7.4: the longest rows there are: no sum is too great.
func TestGreatRows(t *testing.T) {
	l := join([]api.Sum{sum(0, top-1, top-1)}, rows(62, whole(top)), []api.Sum{sum(top-1, top-1, 0)})
	all := 64*top - 2
	wantMerge(t, l, top, sum(0, all, 0))
	wantFits(t, l, top, all, 1, true)
	wantFits(t, l, top, top, 1, true)
	wantFits(t, l, top, top-1, 0, true)
	wantFits(t, l, top, all+1, 0, false)
	l = join(rows(63, sum(0, 0, 0)), []api.Sum{sum(0, top-2, 0)})
	wantMerge(t, l, top, sum(0, top-2, 0))
	wantFits(t, l, top, top-2, 63*top, true)
	l = join(rows(62, sum(0, 0, 0)), []api.Sum{sum(0, 1, 1), sum(1, 1, 0)})
	wantFits(t, l, top, 2, 63*top-1, true)
}

// 7.3, 7.4, 7.5: all lists of up to three summaries that are right, for rows of
// few pages, and each n up to more than all pages.
func TestEachList(t *testing.T) {
	for pages := 1; pages <= 4; pages++ {
		of := rightSums(pages)
		for long := range 4 {
			eachList(of, long, func(l []api.Sum) { checkList(t, l, pages) })
		}
	}
	for long := 4; long <= 8; long++ {
		eachList(rightSums(1), long, func(l []api.Sum) { checkList(t, l, 1) })
	}
	eachList(rightSums(2), 5, func(l []api.Sum) { checkList(t, l, 2) })
}

// checkList holds Merge and Fits against the model, and against each other.
func checkList(t *testing.T, l []api.Sum, pages int) {
	t.Helper()
	m := merged(l, pages)
	wantMerge(t, l, pages, m)
	for n := 1; n <= pages*len(l)+1; n++ {
		at, ok := fitting(l, pages, n)
		wantFits(t, l, pages, n, at, ok)
		if ok != (m.Max >= n) {
			t.Fatalf("Fits(%v, %d, %d): %v, but Merge: %v", l, pages, n, ok, m)
		}
	}
}

// 7.3, 7.4: long lists by chance, against the model.
func TestAgainstModel(t *testing.T) {
	next := chance(73)
	for range 20000 {
		pages := 1 + next(next(40)+1)
		l := make([]api.Sum, next(65))
		for i := range l {
			l[i] = rightByChance(next, pages)
		}
		wantMerge(t, l, pages, merged(l, pages))
		for range 4 {
			n := 1 + next(next(pages*8)+1)
			at, ok := fitting(l, pages, n)
			wantFits(t, l, pages, n, at, ok)
		}
	}
}

// 7.3, 7.4, 7.5: all ways in which up to 12 pages may be free, cut into rows:
// Merge is the summary of all pages; where Fits is false no n free pages in a
// row stand; else it tells the first of them, or the row in which they lie.
func TestEachPage(t *testing.T) {
	for _, cut := range [][2]int{{1, 1}, {1, 7}, {2, 1}, {2, 6}, {3, 4}, {4, 3}, {5, 2}, {6, 2}, {12, 1}} {
		pages, all := cut[0], cut[0]*cut[1]
		free := make([]bool, all)
		for set := range 1 << all {
			for i := range free {
				free[i] = set>>i&1 == 1
			}
			l := rowsOf(free, pages)
			wantMerge(t, l, pages, sumOf(free))
			for n := 1; n <= all+1; n++ {
				first, is := firstFree(free, n)
				if first%pages+n <= pages {
					first -= first % pages
				}
				wantFits(t, l, pages, n, first, is)
			}
		}
	}
}

// 7.5: Merge of one is it.
func TestMergeOfOne(t *testing.T) {
	for pages := 1; pages <= 9; pages++ {
		for _, s := range rightSums(pages) {
			wantMerge(t, []api.Sum{s}, pages, s)
		}
	}
}

// 7.5: Merge of two, and of that with a third, put right for the lengths (with
// a row of used pages behind, or ahead, so that both are as long), is Merge of
// the three.
func TestMergeOfMerged(t *testing.T) {
	used := sum(0, 0, 0)
	for pages := 1; pages <= 4; pages++ {
		eachList(rightSums(pages), 3, func(l []api.Sum) {
			two, third := mustMerge(t, l[:2], pages), mustMerge(t, []api.Sum{l[2], used}, pages)
			wantMerge(t, []api.Sum{two, third}, 2*pages, mustMerge(t, join(l, []api.Sum{used}), pages))
			first, last := mustMerge(t, []api.Sum{used, l[0]}, pages), mustMerge(t, l[1:], pages)
			got := mustMerge(t, []api.Sum{first, last}, 2*pages)
			three := mustMerge(t, l, pages)
			if got.Max != three.Max || got.End != three.End {
				t.Fatalf("Merge(%v, %d): %v, but in two parts %v", l, pages, three, got)
			}
		})
	}
}

// 7.5: eight by eight rows, at once and in two levels.
func TestMergeOfEight(t *testing.T) {
	next := chance(75)
	for range 5000 {
		pages := 1 + next(20)
		l := make([]api.Sum, 64)
		for i := range l {
			l[i] = rightByChance(next, pages)
		}
		var eights []api.Sum
		for part := range slices.Chunk(l, 8) {
			eights = append(eights, mustMerge(t, part, pages))
		}
		wantMerge(t, eights, 8*pages, mustMerge(t, l, pages))
	}
}

func mustMerge(t *testing.T, l []api.Sum, pages int) api.Sum {
	t.Helper()
	s, e := Merge(l, pages)
	if e != api.OK {
		t.Fatalf("Merge(%v, %d): %d", l, pages, e)
	}
	return s
}

// R3: lists are not changed, and what lies behind their length is not read; nil
// and empty ones are one.
func TestListsAreLeft(t *testing.T) {
	memory := []api.Sum{sum(0, 3, 3), whole(8), sum(2, 2, 0), whole(9), sum(-1, -1, -1), whole(8)}
	was := slices.Clone(memory)
	l := memory[:3]
	wantMerge(t, l, 8, sum(0, 13, 0))
	wantFits(t, l, 8, 13, 5, true)
	wantFits(t, l, 8, 14, 0, false)
	wantRefused(t, memory[:4], 8)
	wantMerge(t, memory[:0], 8, sum(0, 0, 0))
	wantFits(t, memory[:0], 8, 1, 0, false)
	if !slices.Equal(memory, was) {
		t.Error("the list became ", memory)
	}
}

// R2, R4: no call hangs on another, on one that was refused neither.
func TestCallsAreApart(t *testing.T) {
	l := []api.Sum{sum(0, 3, 3), sum(2, 4, 0)}
	for range 3 {
		wantMerge(t, l, 8, sum(0, 5, 0))
		wantFits(t, l, 8, 5, 5, true)
		wantPack(t, l[1], 2|4<<21, api.OK)
		wantUnpack(t, 2|4<<21, l[1], api.OK)
		wantRefused(t, l, 3)
		wantPack(t, sum(3, 2, 1), 0, api.ErrArg)
		wantUnpack(t, 2, api.Sum{}, api.ErrArg)
		wantMerge(t, rows(3, whole(5)), 5, whole(15))
	}
}

// Ways: words are put together and taken apart by shifts and masks.
func TestShiftsAndMasks(t *testing.T) {
	file, err := parser.ParseFile(token.NewFileSet(), "pack.go", nil, 0)
	if err != nil {
		t.Fatal(err)
	}
	used := map[string]map[token.Token]int{}
	for _, d := range file.Decls {
		f, ok := d.(*ast.FuncDecl)
		if !ok {
			continue
		}
		ops := map[token.Token]int{}
		ast.Inspect(f, func(n ast.Node) bool {
			if b, ok := n.(*ast.BinaryExpr); ok {
				ops[b.Op]++
			}
			return true
		})
		used[f.Name.Name] = ops
	}
	if used["Pack"][token.SHL] == 0 || used["Pack"][token.OR] == 0 {
		t.Error("Pack does without shifts: ", used["Pack"])
	}
	if used["Unpack"][token.SHR] == 0 || used["Unpack"][token.AND] == 0 {
		t.Error("Unpack does without shifts or masks: ", used["Unpack"])
	}
}
