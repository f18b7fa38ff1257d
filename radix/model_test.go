package radix

import (
	"fmt"
	"maps"
	"math"
	"slices"
	"testing"

	"mallow/api"
	"mallow/pack"
)

const allPages = 1 << 35

// page is what State tells of one.
type page struct{ in, free, released bool }

var (
	isUsed     = page{in: true}
	isIdle     = page{in: true, free: true}
	isReleased = page{in: true, free: true, released: true}
)

// stretch is pages that are all alike.
type stretch struct {
	first, end uint64
	page
}

// The model keeps the whole space as stretches, one behind the other, and goes
// through all of them for each answer. No two neighbours are alike.
type model []stretch

func newModel() *model {
	return &model{{first: 0, end: allPages}}
}

func (m *model) clone() *model {
	c := slices.Clone(*m)
	return &c
}

// part is what of the stretches lies from first on and below end.
func (m *model) part(first, end uint64) []stretch {
	var l []stretch
	for _, s := range *m {
		if s.first = max(s.first, first); s.first < min(s.end, end) {
			l = append(l, stretch{s.first, min(s.end, end), s.page})
		}
	}
	return l
}

func (m *model) set(first, end uint64, p page) {
	l := append(m.part(0, first), stretch{first, end, p})
	l = append(l, m.part(end, allPages)...)
	*m = nil
	for _, s := range l {
		last := len(*m) - 1
		switch {
		case s.first == s.end:
		case last >= 0 && (*m)[last].page == s.page:
			(*m)[last].end = s.end
		default:
			*m = append(*m, s)
		}
	}
}

func (m *model) count(first, end uint64, is func(p page) bool) uint64 {
	n := uint64(0)
	for _, s := range m.part(first, end) {
		if is(s.page) {
			n += s.end - s.first
		}
	}
	return n
}

func in(p page) bool   { return p.in }
func free(p page) bool { return p.free }
func back(p page) bool { return p.released }

// lies is 9.2's 'a row of pages lies in the tree'; a number above all pages is
// told first, as the sum of two may wrap round.
func (m *model) lies(first, n uint64) bool {
	if n == 0 || first > allPages || n > allPages || first+n > allPages {
		return false
	}
	return m.count(first, first+n, in) == n
}

func (m *model) grow(chunk, n uint64) api.Errno {
	if n == 0 || n > 1<<18 || chunk > 1<<26 || chunk+n > 1<<26 {
		return api.ErrArg
	}
	first, end := 512*chunk, 512*(chunk+n)
	if m.count(first, end, in) > 0 {
		return api.ErrTwice
	}
	m.set(first, end, isReleased)
	return api.OK
}

func (m *model) take(first, n uint64) (uint64, api.Errno) {
	if !m.lies(first, n) {
		return 0, api.ErrAddr
	}
	if m.count(first, first+n, free) < n {
		return 0, api.ErrUsed
	}
	were := m.count(first, first+n, back)
	m.set(first, first+n, isUsed)
	return were, api.OK
}

// give is Give's, and Back's if the pages are to be released.
func (m *model) give(first, n uint64, p page) api.Errno {
	if !m.lies(first, n) {
		return api.ErrAddr
	}
	if m.count(first, first+n, free) > 0 {
		return api.ErrFree
	}
	m.set(first, first+n, p)
	return api.OK
}

// frees are the rows of free pages, each as long as it goes.
func (m *model) frees() []stretch {
	var l []stretch
	for _, s := range *m {
		if !s.free {
			continue
		}
		if last := len(l) - 1; last >= 0 && l[last].end == s.first {
			l[last].end = s.end
			continue
		}
		l = append(l, s)
	}
	return l
}

func (m *model) find(n uint64) (uint64, bool) {
	for _, s := range m.frees() {
		if n > 0 && s.end-s.first >= n {
			return s.first, true
		}
	}
	return 0, false
}

func (m *model) alloc(n uint64) (uint64, uint64, api.Errno) {
	if n == 0 {
		return 0, 0, api.ErrArg
	}
	first, ok := m.find(n)
	if !ok {
		return 0, 0, api.ErrFull
	}
	were, e := m.take(first, n)
	return first, were, e
}

func (m *model) scavenge(most uint64) (uint64, uint64) {
	for _, s := range slices.Backward(*m) {
		if s.page != isIdle || most == 0 {
			continue
		}
		first := max(s.first, (s.end-1)/512*512)
		if s.end-first > most {
			first = s.end - most
		}
		m.set(first, s.end, isReleased)
		return first, s.end - first
	}
	return 0, 0
}

func (m *model) state(at uint64) page {
	for _, s := range m.part(at, at+1) {
		return s.page
	}
	return page{}
}

// rowPages is how many pages a row at a level has.
func rowPages(level int) uint64 {
	return []uint64{512 * 512, 64 * 512, 8 * 512, 512}[level]
}

func (m *model) sum(level int, i uint64) (api.Sum, api.Errno) {
	if level < 0 || level > 3 || i >= allPages/rowPages(level) {
		return api.Sum{}, api.ErrArg
	}
	var sum api.Sum
	long, only := 0, true
	for _, s := range m.part(i*rowPages(level), (i+1)*rowPages(level)) {
		if !s.free {
			long, only = 0, false
			continue
		}
		long += int(s.end - s.first)
		if only {
			sum.Start = long
		}
		sum.Max = max(sum.Max, long)
	}
	sum.End = long
	return sum, api.OK
}

// tree makes one of the model's pages, by the calls of the chapter alone.
func (m *model) tree() *Tree {
	t := New()
	for _, s := range *m {
		// A stretch need not end where a chunk does, but what it has of its last
		// chunk is in use as well.
		for c := (s.first + 511) / 512; s.in && c < (s.end+511)/512; {
			n := min((s.end+511)/512-c, 1<<18)
			t.Grow(c, n)
			c += n
		}
	}
	for _, s := range *m {
		if s.page == isUsed || s.page == isIdle {
			t.Take(s.first, s.end-s.first)
		}
		if s.page == isIdle {
			t.Give(s.first, s.end-s.first)
		}
	}
	return t
}

// copyOf is a tree that keeps the same, made anew.
func copyOf(r *Tree) *Tree {
	c := New()
	for depth, level := range r.levels {
		maps.Copy(c.levels[depth], level)
	}
	for i, of := range r.chunks {
		other := *of
		c.chunks[i] = &other
	}
	return c
}

// check holds all that a tree tells against the model, and what it keeps against
// itself.
func check(t *testing.T, name string, r *Tree, m *model) {
	t.Helper()
	inUse, isFree, isBack := m.count(0, allPages, in), m.count(0, allPages, free), m.count(0, allPages, back)
	if r.Free() != isFree || r.Released() != isBack || r.top().pages != inUse {
		t.Fatalf("%s: Free %d, Released %d; want %d, %d", name, r.Free(), r.Released(), isFree, isBack)
	}
	checkStates(t, name, r, m)
	checkFinds(t, name, r, m)
	checkSums(t, name, r, m)
	checkKept(t, name, r)
}

// checkStates asks for pages at the begin, in the middle, at the end of each
// stretch, and for those that are none.
func checkStates(t *testing.T, name string, r *Tree, m *model) {
	t.Helper()
	ask := func(at uint64, want page) {
		if is, isFree, isBack := r.State(at); (page{is, isFree, isBack}) != want {
			t.Fatalf("%s: State(%d): %v %v %v; want %v", name, at, is, isFree, isBack, want)
		}
	}
	for _, s := range *m {
		for _, at := range []uint64{s.first, s.first + (s.end-s.first)/3, s.first + (s.end-s.first)/2, s.end - 1} {
			ask(at, s.page)
		}
	}
	for _, at := range []uint64{allPages, allPages + 1, 1 << 36, math.MaxUint64} {
		ask(at, page{})
	}
}

// checkFinds asks for the edges, and for as many as each row of free pages has,
// and one more.
func checkFinds(t *testing.T, name string, r *Tree, m *model) {
	t.Helper()
	frees := m.frees()
	asks := lengths()
	for _, s := range frees {
		asks = append(asks, s.end-s.first, s.end-s.first+1)
	}
	slices.Sort(asks)
	for _, n := range slices.Compact(asks) {
		want, is := m.find(n)
		if got, ok := r.Find(n); got != want || ok != is {
			t.Fatalf("%s: Find(%d): %d, %v; want %d, %v", name, n, got, ok, want, is)
		}
	}
	if hint := r.Hint(); hint > allPages || len(frees) > 0 && frees[0].first < hint {
		t.Fatalf("%s: Hint: %d; the free pages are %v", name, hint, frees)
	}
}

// checkSums asks for the rows of each level in which a stretch begins or ends,
// for those beside them, and for the first and the last ones; and for rows that
// are none.
func checkSums(t *testing.T, name string, r *Tree, m *model) {
	t.Helper()
	for level := -1; level <= 4; level++ {
		asks := []uint64{0, math.MaxUint64}
		if level >= 0 && level <= 3 {
			rows := allPages / rowPages(level)
			asks = append(asks, 1, rows-2, rows-1, rows, rows+1)
			for _, s := range *m {
				i, k := s.first/rowPages(level), (s.end-1)/rowPages(level)
				asks = append(asks, i, i+1, k, k+1)
			}
		}
		slices.Sort(asks)
		for _, i := range slices.Compact(asks) {
			want, e := m.sum(level, i)
			if got, code := r.Sum(level, i); got != want || code != e {
				t.Fatalf("%s: Sum(%d, %d): %v, %d; want %v, %d", name, level, i, got, code, want, e)
			}
			if e == api.OK && level < 3 {
				checkMerge(t, name, r, level, i)
			}
		}
	}
}

// checkMerge is 9.6: the sum of a row is that of the eight below it.
func checkMerge(t *testing.T, name string, r *Tree, level int, i uint64) {
	t.Helper()
	var eight []api.Sum
	for k := range uint64(8) {
		sum, e := r.Sum(level+1, 8*i+k)
		if e != api.OK {
			t.Fatalf("%s: Sum(%d, %d): %d", name, level+1, 8*i+k, e)
		}
		eight = append(eight, sum)
	}
	want, e := pack.Merge(eight, int(rowPages(level+1)))
	if got, _ := r.Sum(level, i); got != want || e != api.OK {
		t.Fatalf("%s: Sum(%d, %d): %v; Merge of the eight below it: %v, %d", name, level, i, got, want, e)
	}
}

// kept is how many rows and chunks a tree keeps.
func kept(r *Tree) int {
	n := len(r.chunks)
	for _, level := range r.levels {
		n += len(level)
	}
	return n
}

// checkKept goes from the first row down through all that is kept: each row is
// what those below it make, none is kept that need not be, and none lies below
// one that is not kept.
func checkKept(t *testing.T, name string, r *Tree) {
	t.Helper()
	seen := 0
	var down func(depth int, i uint64, rest state)
	down = func(depth int, i uint64, rest state) {
		is, ok := r.levels[depth][i]
		if !ok {
			return
		}
		seen++
		if fault := faultOf(r, depth, i, rest); fault != "" {
			t.Fatalf("%s: row %d at depth %d: %v: %s", name, i, depth, is, fault)
		}
		if depth < chunkDepth {
			for k := range r.below(depth, i, is.rest) {
				down(depth+1, k, is.rest)
			}
		} else if _, ok := r.chunks[i]; ok {
			seen++
		}
	}
	down(0, 0, outside)
	if seen != kept(r) {
		t.Fatalf("%s: %d rows and chunks are kept, of which %d are reached", name, kept(r), seen)
	}
}

// faultOf tells what is wrong with a row that is kept.
func faultOf(r *Tree, depth int, i uint64, rest state) string {
	is := r.levels[depth][i]
	s, alike := is.alike(size(depth))
	switch {
	case alike && s == rest:
		return "it is as the rest, and kept"
	case alike && is != even(depth, s):
		return "its pages are alike, but it is not even"
	case alike:
		return ""
	case depth == chunkDepth:
		if c, ok := r.chunks[i]; !ok || tallyOfChunk(c, 0, 512) != is.tally || c.Sum() != is.sum {
			return "it is not what its chunk makes"
		}
		return ""
	}
	var sum tally
	for _, b := range r.below(depth, i, is.rest) {
		sum = sum.plus(b.tally)
	}
	if sum != is.tally || r.sumBelow(depth, i, is.rest) != is.sum {
		return "it is not what those below it make"
	}
	return ""
}

func checkGrow(t *testing.T, name string, r *Tree, m *model, chunk, n uint64) {
	t.Helper()
	name = fmt.Sprintf("%s: Grow(%d, %d)", name, chunk, n)
	want := m.grow(chunk, n)
	if e := r.Grow(chunk, n); e != want {
		t.Fatalf("%s: %d; want %d", name, e, want)
	}
	check(t, name, r, m)
}

func checkTake(t *testing.T, name string, r *Tree, m *model, first, n uint64) {
	t.Helper()
	name = fmt.Sprintf("%s: Take(%d, %d)", name, first, n)
	want, wantErr := m.take(first, n)
	if got, e := r.Take(first, n); got != want || e != wantErr {
		t.Fatalf("%s: %d, %d; want %d, %d", name, got, e, want, wantErr)
	}
	check(t, name, r, m)
}

func checkGive(t *testing.T, name string, r *Tree, m *model, first, n uint64) {
	t.Helper()
	name = fmt.Sprintf("%s: Give(%d, %d)", name, first, n)
	want := m.give(first, n, isIdle)
	if e := r.Give(first, n); e != want {
		t.Fatalf("%s: %d; want %d", name, e, want)
	}
	check(t, name, r, m)
}

func checkBack(t *testing.T, name string, r *Tree, m *model, first, n uint64) {
	t.Helper()
	name = fmt.Sprintf("%s: Back(%d, %d)", name, first, n)
	want := m.give(first, n, isReleased)
	if e := r.Back(first, n); e != want {
		t.Fatalf("%s: %d; want %d", name, e, want)
	}
	check(t, name, r, m)
}

func checkAlloc(t *testing.T, name string, r *Tree, m *model, n uint64) {
	t.Helper()
	name = fmt.Sprintf("%s: Alloc(%d)", name, n)
	first, were, code := m.alloc(n)
	if gotFirst, got, e := r.Alloc(n); gotFirst != first || got != were || e != code {
		t.Fatalf("%s: %d, %d, %d; want %d, %d, %d", name, gotFirst, got, e, first, were, code)
	}
	check(t, name, r, m)
}

// checkScavenge answers what Scavenge answered.
func checkScavenge(t *testing.T, name string, r *Tree, m *model, most uint64) (uint64, uint64) {
	t.Helper()
	name = fmt.Sprintf("%s: Scavenge(%d)", name, most)
	first, n := m.scavenge(most)
	if gotFirst, got := r.Scavenge(most); gotFirst != first || got != n {
		t.Fatalf("%s: %d, %d; want %d, %d", name, gotFirst, got, first, n)
	}
	check(t, name, r, m)
	return first, n
}
