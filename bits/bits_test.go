package bits

import (
	"go/ast"
	"go/parser"
	"go/token"
	"math"
	"testing"

	"mallow/api"
)

// Ways: a row is an array, and its methods are those of a pointer to it.
var _ [8]uint64 = Row{}

var _ interface {
	Get(int) bool
	Set(int, int) api.Errno
	Clear(int, int) api.Errno
	Count(int, int) int
	Find(int, int) (int, bool)
	Last(int, int) (int, int)
	Sum() api.Sum
} = &Row{}

// eachRight calls with each span that is right.
func eachRight(call func(i, n int)) {
	for i := 0; i <= 512; i++ {
		for n := 0; n <= 512-i; n++ {
			call(i, n)
		}
	}
}

// wrongSpans are spans that are not right, each for one reason or for more.
func wrongSpans() [][2]int {
	return [][2]int{
		{-1, 0}, {-1, 1}, {-1, 512}, {-1, 513}, {-64, 64}, {-512, 512}, {math.MinInt, 0}, {math.MinInt, 1}, {math.MinInt, math.MaxInt},
		{0, -1}, {1, -1}, {64, -64}, {511, -1}, {512, -1}, {512, -512}, {513, -1}, {0, math.MinInt}, {512, math.MinInt},
		{-1, -1}, {math.MinInt, -1}, {-1, math.MinInt}, {math.MinInt, math.MinInt},
		{0, 513}, {1, 512}, {448, 65}, {449, 64}, {510, 3}, {511, 2}, {512, 1}, {513, 0}, {513, 1}, {576, 0}, {1 << 32, 0}, {0, 1 << 32},
		{1, math.MaxInt}, {math.MaxInt, 1}, {math.MaxInt, 0}, {0, math.MaxInt}, {511, math.MaxInt - 510}, {512, math.MaxInt - 511}, {512, math.MaxInt}, {math.MaxInt - 511, 512}, {math.MaxInt, math.MaxInt}, {math.MaxInt, math.MinInt}, {1 << 62, 1 << 62},
	}
}

func fullRow() Row {
	var m model
	m.fill(0, 512, true)
	return m.row()
}

// far are numbers that are no bits, on both sides.
func far() []int {
	return []int{math.MinInt, math.MinInt + 1, math.MinInt + 448, -1 << 32, -513, -512, -64, -1, 513, 576, 1024, 1 << 32, math.MaxInt - 511, math.MaxInt - 1, math.MaxInt}
}

// lengths are how long rows are asked for: all short ones, and what stands
// around the ends of words.
func lengths() []int {
	var all []int
	for n := 1; n <= 512; n++ {
		if n <= 66 || n >= 510 || (n+1)%64 <= 2 {
			all = append(all, n)
		}
	}
	return all
}

func wantFind(t *testing.T, name string, r *Row, n, from, want int, is bool) {
	t.Helper()
	if got, ok := r.Find(n, from); got != want || ok != is {
		t.Fatalf("%s: Find(%d, %d): %d, %v; want %d, %v", name, n, from, got, ok, want, is)
	}
}

func wantLast(t *testing.T, name string, r *Row, n, to, at, long int) {
	t.Helper()
	if gotAt, gotLong := r.Last(n, to); gotAt != at || gotLong != long {
		t.Fatalf("%s: Last(%d, %d): %d, %d; want %d, %d", name, n, to, gotAt, gotLong, at, long)
	}
}

// 6.1 to 6.4: the chapter's examples.
func TestExamples(t *testing.T) {
	var r Row
	if e := r.Set(0, 3); e != api.OK {
		t.Error("Set(0, 3): ", e)
	}
	if e := r.Set(10, 1); e != api.OK {
		t.Error("Set(10, 1): ", e)
	}
	if r != (Row{1<<0 | 1<<1 | 1<<2 | 1<<10}) {
		t.Errorf("the words are %x", r)
	}
	if !r.Get(2) || r.Get(3) {
		t.Error("Get(2), Get(3): ", r.Get(2), r.Get(3))
	}
	if n := r.Count(0, 512); n != 4 {
		t.Error("Count(0, 512): ", n)
	}
	wantFind(t, "example", &r, 7, 0, 3, true)
	wantFind(t, "example", &r, 8, 0, 11, true)
	wantLast(t, "example", &r, 4, 12, 11, 1)
	wantLast(t, "example", &r, 4, 10, 6, 4)
	if s := r.Sum(); s != (api.Sum{Start: 0, Max: 501, End: 501}) {
		t.Error("Sum: ", s)
	}
	if e := r.Set(510, 3); e != api.ErrArg {
		t.Error("Set(510, 3): ", e)
	}
}

// 6.1: each bit stands in its word, at its place, the lowest first.
func TestPlaces(t *testing.T) {
	for _, x := range []struct {
		i, word int
		value   uint64
	}{{0, 0, 1}, {1, 0, 2}, {63, 0, 1 << 63}, {64, 1, 1}, {127, 1, 1 << 63}, {128, 2, 1}, {200, 3, 256}, {448, 7, 1}, {511, 7, 1 << 63}} {
		var r, want Row
		want[x.word] = x.value
		if e := r.Set(x.i, 1); e != api.OK || r != want {
			t.Errorf("Set(%d, 1): %d, %x; want %x", x.i, e, r, want)
		}
	}
	for i := range 512 {
		var r Row
		r[i/64] = uint64(1) << (i % 64)
		for k := range 512 {
			if r.Get(k) != (k == i) || (r.Count(k, 1) == 1) != (k == i) {
				t.Fatalf("bit %d is set: Get(%d) %v, Count(%d, 1) %d", i, k, r.Get(k), k, r.Count(k, 1))
			}
		}
	}
}

// 6.2: Get of each bit, and of what is none.
func TestGet(t *testing.T) {
	eachShape(t, func(s shape, r *Row) {
		for i, set := range s.bits {
			if r.Get(i) != set {
				t.Fatalf("%s: Get(%d): %v", s.name, i, r.Get(i))
			}
		}
		for _, i := range append(far(), 512) {
			if r.Get(i) {
				t.Errorf("%s: Get(%d): true", s.name, i)
			}
		}
	})
}

// 6.1, 6.2: each span there is, in a row that is all clear and in one that is
// all set: just its bits are turned, and counted.
func TestEachSpan(t *testing.T) {
	eachRight(func(i, n int) {
		var want model
		want.fill(i, n, true)
		var r Row
		if e := r.Set(i, n); e != api.OK || r != want.row() {
			t.Fatalf("Set(%d, %d): %d, %x", i, n, e, r)
		}
		if got := r.Count(i, n); got != n {
			t.Fatalf("Count(%d, %d) behind Set: %d", i, n, got)
		}
		want.fill(0, 512, true)
		r = want.row()
		want.fill(i, n, false)
		if e := r.Clear(i, n); e != api.OK || r != want.row() {
			t.Fatalf("Clear(%d, %d): %d, %x", i, n, e, r)
		}
		if got := r.Count(i, n); got != 0 {
			t.Fatalf("Count(%d, %d) behind Clear: %d", i, n, got)
		}
		if got := r.Count(0, 512); got != 512-n {
			t.Fatalf("Count(0, 512) behind Clear(%d, %d): %d", i, n, got)
		}
	})
}

// 6.2: the edges of spans in rows of all kinds; an empty span changes nothing.
func TestSpansInShapes(t *testing.T) {
	for _, s := range shapes() {
		for _, x := range spans() {
			r, want := s.bits.row(), s.bits
			want.fill(x[0], x[1], true)
			if e := r.Set(x[0], x[1]); e != api.OK || r != want.row() {
				t.Errorf("%s: Set%v: %d, %x", s.name, x, e, r)
			}
			r, want = s.bits.row(), s.bits
			want.fill(x[0], x[1], false)
			if e := r.Clear(x[0], x[1]); e != api.OK || r != want.row() {
				t.Errorf("%s: Clear%v: %d, %x", s.name, x, e, r)
			}
		}
	}
}

// 6.2
func TestCount(t *testing.T) {
	eachShape(t, func(s shape, r *Row) {
		for _, x := range spans() {
			if got, want := r.Count(x[0], x[1]), s.bits.count(x[0], x[1]); got != want {
				t.Errorf("%s: Count%v: %d; want %d", s.name, x, got, want)
			}
		}
		for i := range 513 {
			if got, want := r.Count(0, i), s.bits.count(0, i); got != want {
				t.Fatalf("%s: Count(0, %d): %d; want %d", s.name, i, got, want)
			}
			if got, want := r.Count(i, 512-i), s.bits.count(i, 512-i); got != want {
				t.Fatalf("%s: Count(%d, %d): %d; want %d", s.name, i, 512-i, got, want)
			}
		}
	})
}

// 6.1, 6.2, R2: a span that is not right is refused, and changes nothing.
func TestWrongSpans(t *testing.T) {
	eachShape(t, func(s shape, r *Row) {
		for _, x := range wrongSpans() {
			if e := r.Set(x[0], x[1]); e != api.ErrArg {
				t.Errorf("%s: Set%v: %d", s.name, x, e)
			}
			if e := r.Clear(x[0], x[1]); e != api.ErrArg {
				t.Errorf("%s: Clear%v: %d", s.name, x, e)
			}
			if n := r.Count(x[0], x[1]); n != 0 {
				t.Errorf("%s: Count%v: %d", s.name, x, n)
			}
		}
	})
}

// 6.1, 6.2: on both sides of the bound, for each i.
func TestBoundOfSpans(t *testing.T) {
	for i := -2; i <= 514; i++ {
		for n := 512 - i - 2; n <= 512-i+2; n++ {
			want := api.ErrArg
			if i >= 0 && n >= 0 && i+n <= 512 {
				want = api.OK
			}
			var r Row
			if e := r.Set(i, n); e != want {
				t.Errorf("Set(%d, %d): %d", i, n, e)
			}
			if e := r.Clear(i, n); e != want {
				t.Errorf("Clear(%d, %d): %d", i, n, e)
			}
		}
	}
}

// 6.3, 6.5: each from, in rows of all kinds.
func TestFind(t *testing.T) {
	eachShape(t, func(s shape, r *Row) {
		long := s.bits.ahead()
		for _, n := range lengths() {
			first, is := 0, false
			for from := 512; from >= 0; from-- {
				if long[from] >= n {
					first, is = from, true
				}
				wantFind(t, s.name, r, n, from, first, is)
			}
			for _, from := range far() {
				if from < 0 {
					wantFind(t, s.name, r, n, from, first, is)
				} else {
					wantFind(t, s.name, r, n, from, 0, false)
				}
			}
		}
	})
}

// 6.3: an n that is not 1 to 512 is found nowhere, wherever it is looked for.
func TestFindWrong(t *testing.T) {
	eachShape(t, func(s shape, r *Row) {
		for _, n := range append(far(), 0) {
			for _, from := range append(far(), 0, 1, 63, 64, 511, 512) {
				wantFind(t, s.name, r, n, from, 0, false)
			}
		}
	})
}

// 6.3
func TestFindEdges(t *testing.T) {
	empty, full := Row{}, fullRow()
	for _, x := range []struct {
		n, from, want int
		is            bool
	}{
		{1, 0, 0, true}, {512, 0, 0, true}, {512, -1, 0, true}, {512, math.MinInt, 0, true}, {512, 1, 0, false}, {511, 1, 1, true}, {513, 0, 0, false}, {513, -1, 0, false}, {0, 0, 0, false}, {-1, 0, 0, false},
		{1, 511, 511, true}, {2, 511, 0, false}, {2, 510, 510, true}, {1, 512, 0, false}, {0, 512, 0, false}, {1, 513, 0, false}, {1, math.MaxInt, 0, false}, {math.MaxInt, math.MaxInt, 0, false}, {math.MinInt, math.MinInt, 0, false},
	} {
		wantFind(t, "all clear", &empty, x.n, x.from, x.want, x.is)
		wantFind(t, "all set", &full, x.n, x.from, 0, false)
	}
}

// 6.3: each to, in rows of all kinds.
func TestLast(t *testing.T) {
	eachShape(t, func(s shape, r *Row) {
		behind := s.bits.behind()
		end := 0 // behind the highest clear bit below to
		for to := range 513 {
			if behind[to] > 0 {
				end = to
			}
			for _, n := range append(lengths(), 513, 514, math.MaxInt) {
				long := min(n, behind[end])
				wantLast(t, s.name, r, n, to, end-long, long)
			}
		}
		for _, to := range far() {
			for _, n := range []int{1, 2, 64, 512, 513, math.MaxInt} {
				if long := min(n, behind[end]); to > 512 {
					wantLast(t, s.name, r, n, to, end-long, long)
				} else {
					wantLast(t, s.name, r, n, to, 0, 0)
				}
			}
		}
	})
}

// 6.3: an n below 1 has no row.
func TestLastWrong(t *testing.T) {
	eachShape(t, func(s shape, r *Row) {
		for _, n := range []int{0, -1, -2, -64, -512, -513, math.MinInt + 1, math.MinInt} {
			for _, to := range append(far(), 0, 1, 64, 511, 512) {
				wantLast(t, s.name, r, n, to, 0, 0)
			}
		}
	})
}

// 6.3
func TestLastEdges(t *testing.T) {
	empty, full := Row{}, fullRow()
	for _, x := range []struct{ n, to, at, long int }{
		{1, 512, 511, 1}, {512, 512, 0, 512}, {513, 512, 0, 512}, {math.MaxInt, math.MaxInt, 0, 512}, {3, 513, 509, 3}, {3, math.MaxInt, 509, 3}, {1, 511, 510, 1}, {65, 64, 0, 64}, {64, 65, 1, 64}, {1, 1, 0, 1}, {2, 1, 0, 1},
		{1, 0, 0, 0}, {1, -1, 0, 0}, {512, math.MinInt, 0, 0}, {0, 512, 0, 0}, {-1, 512, 0, 0}, {math.MinInt, math.MaxInt, 0, 0}, {math.MaxInt, math.MinInt, 0, 0},
	} {
		wantLast(t, "all clear", &empty, x.n, x.to, x.at, x.long)
		wantLast(t, "all set", &full, x.n, x.to, 0, 0)
	}
	// A row that goes on at to and behind it ends there nevertheless, and a
	// longer one further ahead does not count.
	two := Row{}
	two.Set(100, 1)
	two.Set(103, 409)
	wantLast(t, "two rows", &two, 9, 512, 101, 2)
	wantLast(t, "two rows", &two, 9, 103, 101, 2)
	wantLast(t, "two rows", &two, 9, 102, 101, 1)
	wantLast(t, "two rows", &two, 9, 101, 91, 9)
	wantLast(t, "two rows", &two, 9, 100, 91, 9)
	wantLast(t, "two rows", &two, 999, 101, 0, 100)
	wantLast(t, "two rows", &two, 9, 5, 0, 5)
}

// 6.4
func TestSum(t *testing.T) {
	eachShape(t, func(s shape, r *Row) {
		if got, want := r.Sum(), s.bits.sum(); got != want {
			t.Errorf("%s: Sum: %v; want %v", s.name, got, want)
		}
	})
	if got := (&Row{}).Sum(); got != (api.Sum{Start: 512, Max: 512, End: 512}) {
		t.Error("all clear: Sum: ", got)
	}
	full := fullRow()
	if got := full.Sum(); got != (api.Sum{}) {
		t.Error("all set: Sum: ", got)
	}
}

// 6.4: each span there is, as the only clear bits and as the only set ones.
func TestSumOfEachSpan(t *testing.T) {
	eachRight(func(i, n int) {
		if n == 0 {
			return
		}
		start, end := i, 512-i-n
		var r Row
		r.Set(i, n)
		if got, want := r.Sum(), (api.Sum{Start: start, Max: max(start, end), End: end}); got != want {
			t.Fatalf("only (%d, %d) is set: Sum: %v; want %v", i, n, got, want)
		}
		var want api.Sum
		want.Max = n
		if start == 0 {
			want.Start = n
		}
		if end == 0 {
			want.End = n
		}
		r.Set(0, 512)
		r.Clear(i, n)
		if got := r.Sum(); got != want {
			t.Fatalf("only (%d, %d) is clear: Sum: %v; want %v", i, n, got, want)
		}
	})
}

// 6.5: Set behind Clear of one span leaves it as Set alone.
func TestSetBehindClear(t *testing.T) {
	for _, s := range shapes() {
		for _, x := range append(spans(), wrongSpans()...) {
			alone, both := s.bits.row(), s.bits.row()
			e := alone.Set(x[0], x[1])
			if c := both.Clear(x[0], x[1]); c != e {
				t.Errorf("%s: Clear%v: %d, but Set: %d", s.name, x, c, e)
			}
			both.Set(x[0], x[1])
			if alone != both {
				t.Errorf("%s: Set%v: %x; behind Clear %x", s.name, x, alone, both)
			}
		}
	}
}

// checkFollows holds 6.5 against the calls themselves.
func checkFollows(t *testing.T, name string, r *Row, n, from int) {
	t.Helper()
	at, ok := r.Find(n, from)
	if ok && (at < from || at+n > 512 || r.Count(at, n) != 0) {
		t.Errorf("%s: Find(%d, %d): %d", name, n, from, at)
	}
	if !ok {
		at = 513 - n
	}
	for i := from; i < at; i++ {
		if r.Count(i, n) == 0 {
			t.Errorf("%s: Find(%d, %d): %d, %v, but %d would do", name, n, from, at, ok, i)
		}
	}
	sum, free := r.Sum(), 512-r.Count(0, 512)
	if sum.Start > sum.Max || sum.End > sum.Max || sum.Max > free {
		t.Errorf("%s: Sum: %v, of %d clear bits", name, sum, free)
	}
	if _, any := r.Find(sum.Max, 0); any != (free > 0) {
		t.Errorf("%s: Sum: %v, but Find(%d, 0): %v", name, sum, sum.Max, any)
	}
	if _, more := r.Find(sum.Max+1, 0); more {
		t.Errorf("%s: Sum: %v, but Find(%d, 0) finds", name, sum, sum.Max+1)
	}
}

// 6.5
func TestWhatFollows(t *testing.T) {
	next := chance(65)
	eachShape(t, func(s shape, r *Row) {
		for range 50 {
			checkFollows(t, s.name, r, 1+next(next(512)+1), next(512))
		}
	})
}

// checkLooks holds what is told of a row against its model.
func checkLooks(t *testing.T, r *Row, m *model, n, at int) {
	t.Helper()
	if got, want := r.Sum(), m.sum(); got != want {
		t.Fatalf("%x: Sum: %v; want %v", *r, got, want)
	}
	long, first := m.ahead(), at
	for first < 512 && long[first] < n {
		first++
	}
	is := first < 512
	if !is {
		first = 0
	}
	wantFind(t, "by chance", r, n, at, first, is)
	long, end := m.behind(), at
	for end > 0 && long[end] == 0 {
		end--
	}
	size := min(n, long[end])
	wantLast(t, "by chance", r, n, at, end-size, size)
}

// 6.1 to 6.4: a row that is worked on for long, against the model.
func TestAgainstModel(t *testing.T) {
	var r Row
	var m model
	next := chance(66)
	for range 20000 {
		i, n := next(515)-1, next(next(515)+1)-1
		set := next(2) == 0
		call := r.Clear
		if set {
			call = r.Set
		}
		want := api.ErrArg
		if i >= 0 && n >= 0 && i+n <= 512 {
			want = api.OK
			m.fill(i, n, set)
		}
		if e := call(i, n); e != want || r != m.row() {
			t.Fatalf("(%d, %d), %v: %d, %x", i, n, set, e, r)
		}
		checkLooks(t, &r, &m, 1+next(next(100)+1), next(513))
	}
}

// R3, R4: a row that is copied is one of its own, and no call hangs on another.
func TestRowsAreApart(t *testing.T) {
	var first Row
	first.Set(5, 200)
	second := first
	second.Clear(0, 512)
	var third Row
	third.Set(0, 512)
	if first.Count(0, 512) != 200 || second.Count(0, 512) != 0 || third.Count(0, 512) != 512 {
		t.Error("Count: ", first.Count(0, 512), second.Count(0, 512), third.Count(0, 512))
	}
	for range 3 {
		wantFind(t, "first", &first, 6, 0, 205, true)
		wantFind(t, "second", &second, 6, 0, 0, true)
		wantFind(t, "third", &third, 6, 0, 0, false)
		wantLast(t, "first", &first, 6, 205, 0, 5)
		wantLast(t, "third", &third, 6, 205, 0, 0)
	}
}

// R1: every number of the whole range ends with an answer.
func TestAllNumbers(t *testing.T) {
	numbers := []int{0, math.MinInt, math.MaxInt}
	for k := range 63 {
		p := 1 << k
		numbers = append(numbers, p-1, p, p+1, -p, -p-1)
	}
	var r Row
	for i := 1; i < 512; i = 2*i + 2 {
		r.Set(i, 1)
	}
	for _, a := range numbers {
		for _, b := range numbers {
			if at, ok := r.Find(a, b); ok && (at < b || r.Count(at, a) != 0) || !ok && at != 0 {
				t.Errorf("Find(%d, %d): %d, %v", a, b, at, ok)
			}
			if at, long := r.Last(a, b); long < 0 || long > max(a, 0) || at+long > max(b, 0) || r.Count(at, long) != 0 {
				t.Errorf("Last(%d, %d): %d, %d", a, b, at, long)
			}
			right := a >= 0 && a <= 512 && b >= 0 && b <= 512 && a+b <= 512
			other := r
			if e := other.Set(a, b); (e == api.OK) != right || !right && other != r {
				t.Errorf("Set(%d, %d): %d", a, b, e)
			}
			other = r
			if e := other.Clear(a, b); (e == api.OK) != right || !right && other != r {
				t.Errorf("Clear(%d, %d): %d", a, b, e)
			}
		}
	}
}

// Ways: whole words are passed over by a labelled continue.
func TestLabelledContinue(t *testing.T) {
	file, err := parser.ParseFile(token.NewFileSet(), "bits.go", nil, 0)
	if err != nil {
		t.Fatal(err)
	}
	found := false
	ast.Inspect(file, func(n ast.Node) bool {
		if b, ok := n.(*ast.BranchStmt); ok && b.Tok == token.CONTINUE && b.Label != nil {
			found = true
		}
		return true
	})
	if !found {
		t.Error("there is no labelled continue")
	}
}
