package sets

import (
	"fmt"
	"math"
	"slices"
	"testing"

	"mallow/api"
)

// one is a span as it was put.
type one struct {
	id                 int
	base               uint64
	class              int
	noptr, full, swept bool
}

// of is what Take is asked for.
type of struct {
	class              int
	noptr, full, swept bool
}

func (x one) of() of { return of{x.class, x.noptr, x.full, x.swept} }

// The model is a list of the spans that are there, each time gone through whole.
type model struct{ l []one }

func (w *model) find(is func(one) bool) int { return slices.IndexFunc(w.l, is) }

func (w *model) byID(id int) int { return w.find(func(x one) bool { return x.id == id }) }

func (w *model) byBase(base uint64) int { return w.find(func(x one) bool { return x.base == base }) }

// lowest is the place of the one with the lowest base of those that are asked for; -1, if there is none.
func (w *model) lowest(is func(one) bool) int {
	best := -1
	for i, x := range w.l {
		if is(x) && (best < 0 || x.base < w.l[best].base) {
			best = i
		}
	}
	return best
}

func (w *model) put(x one) api.Errno {
	switch {
	case x.id < 1, x.class < 0, x.class > 67:
		return api.ErrArg
	case w.byID(x.id) >= 0, w.byBase(x.base) >= 0:
		return api.ErrTwice
	}
	w.l = append(w.l, x)
	return api.OK
}

func (w *model) take(k of) (int, bool) {
	i := w.lowest(func(x one) bool { return x.of() == k })
	if i < 0 {
		return 0, false
	}
	id := w.l[i].id
	w.l = slices.Delete(w.l, i, i+1)
	return id, true
}

func (w *model) remove(id int) api.Errno {
	i := w.byID(id)
	if i < 0 {
		return api.ErrNone
	}
	w.l = slices.Delete(w.l, i, i+1)
	return api.OK
}

func (w *model) least() (int, bool) {
	i := w.lowest(func(x one) bool { return !x.swept })
	if i < 0 {
		return 0, false
	}
	return w.l[i].id, true
}

func (w *model) count(swept bool) int {
	n := 0
	for _, x := range w.l {
		if x.swept == swept {
			n++
		}
	}
	return n
}

func (w *model) flip() api.Errno {
	if w.count(false) > 0 {
		return api.ErrState
	}
	for i := range w.l {
		w.l[i].swept = false
	}
	return api.OK
}

// check holds what is told behind every call: Count of both, Least, and, by calls
// that must be refused, whether each span, and each base, is there. (1 << 40 and
// 1 << 50 are a number and a base that no test puts.)
func check(t *testing.T, what string, s *Sets, w *model) {
	t.Helper()
	checkTold(t, what, s, w)
	for _, x := range w.l {
		if e := s.Put(x.id, 1<<50, x.class, x.noptr, x.full, x.swept); e != api.ErrTwice {
			t.Fatalf("%s: span %d is not there: %d", what, x.id, e)
		}
		if e := s.Put(1<<40, x.base, x.class, x.noptr, x.full, x.swept); e != api.ErrTwice {
			t.Fatalf("%s: base %d is not there: %d", what, x.base, e)
		}
	}
	if e := s.Remove(1 << 40); e != api.ErrNone {
		t.Fatalf("%s: Remove of none: %d", what, e)
	}
	checkTold(t, what, s, w)
}

func checkTold(t *testing.T, what string, s *Sets, w *model) {
	t.Helper()
	for _, swept := range []bool{false, true} {
		if n := s.Count(swept); n != w.count(swept) {
			t.Fatalf("%s: Count(%t): %d, want %d", what, swept, n, w.count(swept))
		}
	}
	id, ok := s.Least()
	if wid, wok := w.least(); id != wid || ok != wok {
		t.Fatalf("%s: Least: %d, %t, want %d, %t", what, id, ok, wid, wok)
	}
}

func checkPut(t *testing.T, what string, s *Sets, w *model, x one) api.Errno {
	t.Helper()
	e, we := s.Put(x.id, x.base, x.class, x.noptr, x.full, x.swept), w.put(x)
	what = fmt.Sprintf("%s: Put %v %d", what, x, e)
	if e != we {
		t.Fatalf("%s, want %d", what, we)
	}
	check(t, what, s, w)
	return e
}

func checkTake(t *testing.T, what string, s *Sets, w *model, k of) (int, bool) {
	t.Helper()
	id, ok := s.Take(k.class, k.noptr, k.full, k.swept)
	wid, wok := w.take(k)
	what = fmt.Sprintf("%s: Take %v %d, %t", what, k, id, ok)
	if id != wid || ok != wok {
		t.Fatalf("%s, want %d, %t", what, wid, wok)
	}
	check(t, what, s, w)
	return id, ok
}

func checkRemove(t *testing.T, what string, s *Sets, w *model, id int) api.Errno {
	t.Helper()
	e, we := s.Remove(id), w.remove(id)
	what = fmt.Sprintf("%s: Remove(%d) %d", what, id, e)
	if e != we {
		t.Fatalf("%s, want %d", what, we)
	}
	check(t, what, s, w)
	return e
}

func checkFlip(t *testing.T, what string, s *Sets, w *model) api.Errno {
	t.Helper()
	e, we := s.Flip(), w.flip()
	what = fmt.Sprintf("%s: Flip %d", what, e)
	if e != we {
		t.Fatalf("%s, want %d", what, we)
	}
	check(t, what, s, w)
	return e
}

// drain takes all spans out, kind by kind: each comes once, by rising bases, and
// then there is none of that kind (14.3). What it took is there no more.
func drain(t *testing.T, what string, s *Sets, w *model) {
	t.Helper()
	all := slices.Clone(w.l)
	for _, x := range all {
		for ok := true; ok; {
			_, ok = checkTake(t, what+": drain", s, w, x.of())
		}
	}
	if len(w.l) != 0 {
		t.Fatalf("%s: %v are left", what, w.l)
	}
	for _, x := range all {
		if e := checkRemove(t, what+": drained", s, w, x.id); e != api.ErrNone {
			t.Fatalf("%s: Remove(%d): %d", what, x.id, e)
		}
	}
}

// made are sets of spans, put in that order, and their model.
func made(t *testing.T, l ...one) (*Sets, *model) {
	t.Helper()
	s, w := New(), &model{}
	for _, x := range l {
		if e := checkPut(t, "made", s, w, x); e != api.OK {
			t.Fatalf("Put %v: %d", x, e)
		}
	}
	return s, w
}

// kinds are all there are of some classes: with and without pointers, full and not,
// swept and not.
func kinds(classes ...int) []of {
	var l []of
	for _, c := range classes {
		for i := range 8 {
			l = append(l, of{c, i&1 != 0, i&2 != 0, i&4 != 0})
		}
	}
	return l
}

// classes are all there are.
func classes() []int {
	l := make([]int, 68)
	for c := range l {
		l[c] = c
	}
	return l
}

// row is one span of each base, all of one kind, numbered from 1 on.
func row(k of, bases ...uint64) []one {
	var l []one
	for i, b := range bases {
		l = append(l, one{i + 1, b, k.class, k.noptr, k.full, k.swept})
	}
	return l
}

// mixed is a span of each kind, numbered from first on, whose bases neither rise
// nor fall.
func mixed(first int, l []of) []one {
	var spans []one
	for i, k := range l {
		base := uint64(first*1000+(i*7)%len(l)) * 8192
		spans = append(spans, one{first + i, base, k.class, k.noptr, k.full, k.swept})
	}
	return spans
}

func oddIDs() []int {
	return []int{math.MinInt, math.MinInt + 1, -1 << 32, -2, -1, 0, 1, 2, 3, 1 << 31, 1 << 32, 1<<32 + 1, math.MaxInt - 1, math.MaxInt}
}

func oddBases() []uint64 {
	return []uint64{0, 1, 2, 8192, 1<<31 - 1, 1 << 32, 1<<48 - 1, 1 << 48, 1<<48 + 1, 1<<63 - 1, 1 << 63, 1<<63 + 1, math.MaxUint64 - 1, math.MaxUint64}
}

func oddClasses() []int {
	return []int{math.MinInt, math.MinInt + 1, -1 << 32, -68, -2, -1, 0, 1, 66, 67, 68, 69, 256, 1 << 31, 1 << 32, 1<<32 + 5, math.MaxInt - 1, math.MaxInt}
}

func chance(seed uint64) func(n int) int {
	return func(n int) int {
		seed = seed*6364136223846793005 + 1442695040888963407
		return int((seed >> 24) % uint64(n))
	}
}
