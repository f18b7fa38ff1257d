package vmem

import (
	"math"
	"slices"
	"testing"

	"mallow/api"
)

const (
	all    uint64 = math.MaxUint64
	bytes  uint64 = api.PageSize
	limit  uint64 = api.PageLimit
	beyond uint64 = api.AddrLimit
)

// told is what a space tells: of every page around those that were ever laid
// out its state, and of those that are ready the first, the last and a middle
// word; and how many pages are in each state.
type told struct {
	states []int
	counts []uint64
	words  []uint64
}

func tell(m *Mem, pages ...uint64) told {
	var out told
	for state := -1; state < 6; state++ {
		out.counts = append(out.counts, m.Count(state))
	}
	for _, p := range pages {
		out.states = append(out.states, m.State(p))
		if m.State(p) != api.PageReady {
			continue
		}
		for _, at := range []uint64{0, 8, 4096, bytes - 8} {
			x, _ := m.Load(p*bytes + at)
			out.words = append(out.words, x)
		}
	}
	return out
}

func (a told) same(b told) bool {
	return slices.Equal(a.states, b.states) && slices.Equal(a.counts, b.counts) && slices.Equal(a.words, b.words)
}

func wantCode(t *testing.T, what string, got, want api.Errno) {
	t.Helper()
	if got != want {
		t.Errorf("%s: %d; want %d", what, got, want)
	}
}

func wantReserve(t *testing.T, m *Mem, hint, pages, want uint64, code api.Errno) {
	t.Helper()
	if got, e := m.Reserve(hint, pages); got != want || e != code {
		t.Errorf("Reserve(%d, %d): %d, %d; want %d, %d", hint, pages, got, e, want, code)
	}
}

func wantWord(t *testing.T, m *Mem, addr, want uint64, code api.Errno) {
	t.Helper()
	if got, e := m.Load(addr); got != want || e != code {
		t.Errorf("Load(%d): %d, %d; want %d, %d", addr, got, e, want, code)
	}
}

func wantStates(t *testing.T, m *Mem, first uint64, want ...int) {
	t.Helper()
	for i, w := range want {
		if got := m.State(first + uint64(i)); got != w {
			t.Errorf("State(%d): %d; want %d", first+uint64(i), got, w)
		}
	}
}

func wantCounts(t *testing.T, m *Mem, reserved, ready, released uint64) {
	t.Helper()
	got := [3]uint64{m.Count(api.PageReserved), m.Count(api.PageReady), m.Count(api.PageReleased)}
	if want := [3]uint64{reserved, ready, released}; got != want {
		t.Errorf("Count: %d; want %d", got, want)
	}
}

// laid is a space whose pages 512 to 1023 are reserved, the first ones ready.
func laid(t *testing.T, a api.Answers, ready uint64) *Mem {
	t.Helper()
	m := New(a)
	wantReserve(t, m, 0, 512, 512, api.OK)
	if ready != 0 {
		wantCode(t, "Commit", m.Commit(512, ready), api.OK)
	}
	return m
}

// full is a space in which every page that may be laid out is.
func full(t *testing.T, a api.Answers) *Mem {
	t.Helper()
	m := New(a)
	for i := range uint64(255) {
		wantReserve(t, m, 0, 1<<27, 512+i<<27, api.OK)
	}
	wantReserve(t, m, 0, 1<<27-512, 512+255<<27, api.OK)
	return m
}

// 3.1

func TestNewSpace(t *testing.T) {
	m := New(api.Answers{Fill: []uint64{9}})
	for _, p := range []uint64{0, 1, 511, 512, 1 << 34, limit - 1, limit, limit + 1, 1 << 48, 1 << 63, all} {
		if got := m.State(p); got != api.PageNone {
			t.Errorf("State(%d): %d; want none", p, got)
		}
	}
	for _, state := range []int{math.MinInt, -1, 0, 1, 2, 3, 4, 99, math.MaxInt} {
		if got := m.Count(state); got != 0 {
			t.Errorf("Count(%d): %d; want 0", state, got)
		}
	}
}

func TestStatesAndCounts(t *testing.T) {
	m := New(api.Answers{Places: []uint64{limit - 512}})
	wantReserve(t, m, 0, 512, limit-512, api.OK)
	wantReserve(t, m, 0, 1024, 512, api.OK)
	wantStates(t, m, 511, api.PageNone, api.PageReserved)
	wantStates(t, m, 1535, api.PageReserved, api.PageNone)
	wantStates(t, m, limit-513, api.PageNone, api.PageReserved)
	wantStates(t, m, limit-1, api.PageReserved, api.PageNone, api.PageNone)
	wantStates(t, m, all, api.PageNone)
	wantCounts(t, m, 1536, 0, 0)
	wantCode(t, "Commit", m.Commit(1000, 30), api.OK)
	wantCode(t, "Commit", m.Commit(limit-2, 2), api.OK)
	wantCounts(t, m, 1504, 32, 0)
	wantCode(t, "Release", m.Release(1010, 5), api.OK)
	wantCode(t, "Release", m.Release(limit-1, 1), api.OK)
	wantCounts(t, m, 1504, 26, 6)
	wantStates(t, m, 999, api.PageReserved, api.PageReady)
	wantStates(t, m, 1009, api.PageReady, api.PageReleased)
	wantStates(t, m, 1014, api.PageReleased, api.PageReady)
	wantStates(t, m, 1029, api.PageReady, api.PageReserved)
	wantStates(t, m, limit-2, api.PageReady, api.PageReleased, api.PageNone)
	for _, state := range []int{math.MinInt, -1, api.PageNone, 4, 99, math.MaxInt} {
		if got := m.Count(state); got != 0 {
			t.Errorf("Count(%d): %d; want 0", state, got)
		}
	}
}

func TestAnswersAreNotKept(t *testing.T) {
	places, refuse, fill := []uint64{2048, 4096, 77}, []bool{false, false, false, true}, []uint64{3, 4}
	a := api.Answers{Places: places[:2], Refuse: refuse[:3], Fill: fill[:1]}
	m := New(a)
	a.Places[0], a.Refuse[0], a.Fill[0] = 1024, true, 8
	wantReserve(t, m, 0, 512, 2048, api.OK)
	wantReserve(t, m, 0, 512, 4096, api.OK)
	wantCode(t, "Commit", m.Commit(2048, 2), api.OK)
	wantCode(t, "Release", m.Release(2048, 2), api.OK)
	wantCode(t, "Commit", m.Commit(2048, 2), api.OK) // what lies behind the three of Refuse is not asked
	wantWord(t, m, 2048*bytes, 3, api.OK)
	wantWord(t, m, 2049*bytes, 0, api.OK)
	wantReserve(t, m, 0, 512, 512, api.OK)
	if !slices.Equal(places, []uint64{1024, 4096, 77}) || !slices.Equal(refuse, []bool{true, false, false, true}) || !slices.Equal(fill, []uint64{8, 4}) {
		t.Error("what was handed in is changed: ", places, refuse, fill)
	}
}

func TestSpacesShareNothing(t *testing.T) {
	a := api.Answers{Places: []uint64{1024}, Refuse: []bool{false, true}, Fill: []uint64{5}}
	one, other := New(a), New(a)
	wantReserve(t, one, 0, 512, 1024, api.OK)
	wantCode(t, "Commit", one.Commit(1024, 1), api.ErrMemory)
	wantCode(t, "Commit", one.Commit(1024, 1), api.OK)
	wantCode(t, "Store", one.Store(1024*bytes, 7), api.OK)
	wantStates(t, other, 1024, api.PageNone)
	wantCounts(t, other, 0, 0, 0)
	wantReserve(t, other, 0, 512, 1024, api.OK)
	wantCode(t, "Commit", other.Commit(1024, 1), api.ErrMemory)
	wantCode(t, "Commit", other.Commit(1024, 1), api.OK)
	wantWord(t, other, 1024*bytes, 0, api.OK)
}

// 3.2

func TestRightRows(t *testing.T) {
	m := New(api.Answers{Places: []uint64{limit - 512}, Refuse: []bool{false, false, true}, Fill: []uint64{6}})
	wantReserve(t, m, 0, 512, limit-512, api.OK)
	wantCode(t, "Commit", m.Commit(limit-2, 1), api.OK)
	before := tell(m, limit-2, limit-1)
	for _, c := range []struct {
		page, pages     uint64
		commit, release api.Errno
	}{
		{limit - 512, 0, api.ErrArg, api.ErrArg}, {0, 0, api.ErrArg, api.ErrArg}, {limit, 0, api.ErrArg, api.ErrArg}, {all, 0, api.ErrArg, api.ErrArg},
		{limit - 1, 2, api.ErrArg, api.ErrArg}, {limit - 512, 513, api.ErrArg, api.ErrArg}, {0, limit + 1, api.ErrArg, api.ErrArg}, {1, limit, api.ErrArg, api.ErrArg},
		{limit, 1, api.ErrArg, api.ErrArg}, {limit + 1, 1, api.ErrArg, api.ErrArg}, {1 << 48, 1, api.ErrArg, api.ErrArg}, {all, 1, api.ErrArg, api.ErrArg}, {all, all, api.ErrArg, api.ErrArg},
		// The sum of both wraps round.
		{limit - 2, all, api.ErrArg, api.ErrArg}, {limit - 2, all - limit + 3, api.ErrArg, api.ErrArg}, {limit - 2, all - limit + 4, api.ErrArg, api.ErrArg}, {1 << 63, 1 << 63, api.ErrArg, api.ErrArg}, {all - 511, 1024, api.ErrArg, api.ErrArg}, {512, all - 511, api.ErrArg, api.ErrArg},
		// Right, but not all laid out.
		{0, limit, api.ErrState, api.ErrState}, {limit - 513, 513, api.ErrState, api.ErrState}, {0, 1, api.ErrState, api.ErrState},
	} {
		if e := m.Commit(c.page, c.pages); e != c.commit {
			t.Errorf("Commit(%d, %d): %d; want %d", c.page, c.pages, e, c.commit)
		}
		if e := m.Release(c.page, c.pages); e != c.release {
			t.Errorf("Release(%d, %d): %d; want %d", c.page, c.pages, e, c.release)
		}
		if !tell(m, limit-2, limit-1).same(before) {
			t.Fatalf("row %d, %d: something is changed", c.page, c.pages)
		}
	}
	wantCode(t, "Commit", m.Commit(limit-512, 512), api.ErrMemory) // the refusal was still there
	wantCode(t, "Commit", m.Commit(limit-512, 512), api.OK)
	wantCode(t, "Release", m.Release(limit-512, 512), api.OK)
}

// 3.3

func TestReserveOfWrongPages(t *testing.T) {
	m := New(api.Answers{Places: []uint64{1024}, Refuse: []bool{true, false}})
	for _, pages := range []uint64{0, 1, 5, 511, 513, 1<<27 - 1, 1<<27 + 1, 1<<27 + 512, 1 << 28, 1 << 35, 1 << 63, all - 511, all} {
		for _, hint := range []uint64{0, 512, 700, limit, all} {
			wantReserve(t, m, hint, pages, 0, api.ErrArg)
		}
	}
	wantCounts(t, m, 0, 0, 0)
	// Nothing of what the system answers is used up.
	wantReserve(t, m, 0, 512, 0, api.ErrMemory)
	wantReserve(t, m, 0, 512, 1024, api.OK)
}

func TestReserveByHint(t *testing.T) {
	m := New(api.Answers{})
	for _, c := range []struct{ hint, pages, want uint64 }{
		{0, 512, 512},                              // page 0 is never laid out
		{513, 512, 1024},                           // rounded up
		{1024, 512, 1536},                          // laid out already
		{1100, 512, 2048},                          // within what is laid out
		{4096, 512, 4096},                          //
		{2048, 1536, 2560},                         // between two that are laid out, with no page to spare
		{2048, 512, 4608},                          //
		{8192, 1024, 8192},                         //
		{5120, 3072, 5120},                         // up to the next one
		{5120, 512, 9216},                          //
		{1 << 34, 1 << 27, 1 << 34},                //
		{1<<34 + 5, 512, 1<<34 + 1<<27},            //
		{limit - 512, 512, limit - 512},            // the last chunk
		{limit - 512, 512, 9728},                   // it is laid out: the first place
		{limit - 511, 512, 10240},                  // not a whole chunk is left
		{limit - 1, 512, 10752},                    //
		{limit, 512, 11264},                        // beyond the space
		{limit + 1, 512, 11776},                    //
		{1 << 60, 512, 12288},                      //
		{all - 511, 512, 12800},                    //
		{all, 512, 13312},                          //
		{limit - 1024, 1024, 13824},                // it fits in the space, but a page is laid out
		{limit - 1024, 512, limit - 1024},          //
		{limit - 1<<27, 1<<27 - 512, 14848},        //
		{1, 512, 134232064},                        //
		{limit - 1<<27, 512, limit - 1<<27},        //
		{limit - 1<<27, 1024, limit - 1<<27 + 512}, //
	} {
		wantReserve(t, m, c.hint, c.pages, c.want, api.OK)
	}
}

func TestReserveByPlaces(t *testing.T) {
	places := []uint64{2048, 2048, 2047, 2049, 0, 1, 511, limit, limit - 512, limit - 512, limit - 511, limit + 512, 1 << 63, all - 511, all, 3072, 1536}
	m := New(api.Answers{Places: places})
	for _, c := range []struct{ hint, pages, want uint64 }{
		{0, 512, 2048},           // where the system says, whatever the hint is
		{0, 512, 512},            // laid out already: by the hint
		{0, 512, 1024},           // no multiple of 512
		{4096, 512, 4096},        // no multiple of 512
		{5000, 512, 5120},        // 0
		{8192, 512, 8192},        // no multiple
		{8192, 512, 8704},        // no multiple
		{8192, 512, 9216},        // beyond the space
		{8192, 1024, 9728},       // too long there
		{8192, 512, limit - 512}, // the last chunk
		{8192, 512, 10752},       // no multiple
		{8192, 512, 11264},       // beyond
		{8192, 512, 11776},       // beyond
		{8192, 512, 12288},       // beyond; with its pages it wraps round
		{8192, 512, 12800},       // beyond
		{8192, 1536, 13312},      // 3072: the last of its pages is laid out
		{8192, 1024, 14848},      // 1536: likewise
		{3072, 1024, 3072},       // none is left: by the hint
		{1 << 62, 512, 1536},     // the first place
	} {
		wantReserve(t, m, c.hint, c.pages, c.want, api.OK)
	}
}

func TestReserveRefused(t *testing.T) {
	m := New(api.Answers{Places: []uint64{1024, 2048}, Refuse: []bool{true, false, true, true, false}})
	wantReserve(t, m, 0, 512, 0, api.ErrMemory) // uses up no place
	wantStates(t, m, 512, api.PageNone)
	wantReserve(t, m, 0, 512, 1024, api.OK)
	wantReserve(t, m, 4096, 1<<27, 0, api.ErrMemory)
	wantReserve(t, m, 4096, 512, 0, api.ErrMemory)
	wantCounts(t, m, 512, 0, 0)
	wantReserve(t, m, 4096, 512, 2048, api.OK)
	wantReserve(t, m, 4096, 512, 4096, api.OK) // no answer is left: none is refused
	wantCounts(t, m, 1536, 0, 0)
}

func TestReserveOfAllOfTheSpace(t *testing.T) {
	m := full(t, api.Answers{})
	for _, hint := range []uint64{0, 512, limit - 512, limit, all} {
		wantReserve(t, m, hint, 512, 0, api.ErrMemory)
		wantReserve(t, m, hint, 1<<27, 0, api.ErrMemory)
	}
	wantCounts(t, m, limit-512, 0, 0)
	wantStates(t, m, 511, api.PageNone, api.PageReserved)
	wantStates(t, m, limit-1, api.PageReserved, api.PageNone)
}

// What of the system's answers is used up where there is no place is named by
// the chapter, though the answer is an error.
func TestReserveWithoutPlaceUsesAnswersUp(t *testing.T) {
	refuse := append(make([]bool, 258), true)
	places := append(make([]uint64, 256), 512, 1024)
	m := full(t, api.Answers{Places: places, Refuse: refuse})
	wantReserve(t, m, 0, 512, 0, api.ErrMemory)
	wantReserve(t, m, 0, 512, 0, api.ErrMemory)
	if len(m.ahead.Places) != 0 || len(m.ahead.Refuse) != 1 {
		t.Error("left: ", m.ahead)
	}
	wantCode(t, "Commit", m.Commit(512, 1), api.ErrMemory)
	wantCode(t, "Commit", m.Commit(512, 1), api.OK)
}

// A whole number of chunks is not enough, if they are not in one row.
func TestReserveBetween(t *testing.T) {
	m := New(api.Answers{})
	for at := uint64(1024); at < 64<<10; at += 1024 {
		wantReserve(t, m, at, 512, at, api.OK)
	}
	wantReserve(t, m, 0, 1024, 63<<10+512, api.OK)
	wantReserve(t, m, 0, 512, 512, api.OK)
	wantReserve(t, m, 0, 512, 1536, api.OK)
	wantReserve(t, m, 5000, 512, 5632, api.OK)
}

// 3.4

func TestCommitErrors(t *testing.T) {
	m := New(api.Answers{Places: []uint64{1024, 2048}, Refuse: []bool{false, false, true}, Fill: []uint64{3}})
	wantReserve(t, m, 0, 512, 1024, api.OK)
	wantReserve(t, m, 0, 512, 2048, api.OK)
	for _, c := range []struct {
		page, pages uint64
		want        api.Errno
	}{
		{1024, 0, api.ErrArg}, {limit, 1, api.ErrArg},
		{1023, 1, api.ErrState}, {1023, 2, api.ErrState}, {1535, 2, api.ErrState}, {1024, 1536, api.ErrState}, {1536, 512, api.ErrState}, {0, limit, api.ErrState}, {limit - 1, 1, api.ErrState}, {0, 1, api.ErrState},
	} {
		if e := m.Commit(c.page, c.pages); e != c.want {
			t.Errorf("Commit(%d, %d): %d; want %d", c.page, c.pages, e, c.want)
		}
	}
	wantCounts(t, m, 1024, 0, 0)
	wantCode(t, "the refusal that is still there", m.Commit(1024, 512), api.ErrMemory)
	wantCounts(t, m, 1024, 0, 0)
	wantCode(t, "Commit", m.Commit(1024, 512), api.OK)
	wantCounts(t, m, 512, 512, 0)
}

func TestCommitOfReady(t *testing.T) {
	m := laid(t, api.Answers{Refuse: []bool{false, false, true}, Fill: []uint64{3}}, 4)
	wantCode(t, "Store", m.Store(513*bytes, 9), api.OK)
	for range 3 { // nothing is used up
		wantCode(t, "Commit of ready ones", m.Commit(512, 4), api.OK)
		wantCode(t, "Commit of ready ones", m.Commit(513, 1), api.OK)
	}
	wantWord(t, m, 513*bytes, 9, api.OK)
	before := tell(m, 511, 512, 513, 514, 515, 516)
	wantCode(t, "Commit of one more", m.Commit(512, 5), api.ErrMemory)
	if !tell(m, 511, 512, 513, 514, 515, 516).same(before) {
		t.Error("a refusal changed something")
	}
	wantCode(t, "Commit of one more", m.Commit(512, 5), api.OK)
	wantWord(t, m, 513*bytes, 9, api.OK)
	wantWord(t, m, 516*bytes, 0, api.OK)
	wantCounts(t, m, 507, 5, 0)
}

func TestCommitFills(t *testing.T) {
	m := laid(t, api.Answers{Fill: []uint64{5, 0, all, 7, 8}}, 8)
	for p := uint64(512); p < 520; p++ {
		for _, at := range []uint64{0, 8, 4096, bytes - 8} {
			wantWord(t, m, p*bytes+at, 0, api.OK) // of reserved pages, and no fill is used up
			wantCode(t, "Store", m.Store(p*bytes+at, 100+p), api.OK)
		}
	}
	wantCode(t, "Release", m.Release(513, 2), api.OK)
	wantCode(t, "Release", m.Release(517, 1), api.OK)
	wantCode(t, "Release", m.Release(519, 1), api.OK)
	// 513 and 514 get 5 and 0, 517 gets all; 515, 516 and 518 are ready, and are left alone.
	wantCode(t, "Commit", m.Commit(512, 7), api.OK)
	for i, want := range []uint64{612, 5, 0, 615, 616, all, 618} {
		for _, at := range []uint64{0, 8, 4096, bytes - 8} {
			wantWord(t, m, (512+uint64(i))*bytes+at, want, api.OK)
		}
	}
	// The next one goes to 519; 520 and 521 were reserved.
	wantCode(t, "Commit", m.Commit(518, 4), api.OK)
	for i, want := range []uint64{618, 7, 0, 0} {
		wantWord(t, m, (518+uint64(i))*bytes+8, want, api.OK)
	}
	wantCode(t, "Release", m.Release(512, 3), api.OK)
	wantCode(t, "Commit", m.Commit(514, 1), api.OK)
	wantCode(t, "Commit", m.Commit(512, 2), api.OK)
	for i, want := range []uint64{0, 0, 8} { // in the order of the calls; then none is left
		wantWord(t, m, (512+uint64(i))*bytes+bytes-8, want, api.OK)
	}
	wantWord(t, m, 515*bytes, 615, api.OK)
	wantCounts(t, m, 502, 10, 0)
}

func TestCommitAgainWithoutFill(t *testing.T) {
	m := laid(t, api.Answers{}, 2)
	for range 3 {
		wantWord(t, m, 512*bytes+8, 0, api.OK)
		wantCode(t, "Store", m.Store(512*bytes+8, 5), api.OK)
		wantCode(t, "Release", m.Release(512, 2), api.OK)
		wantCode(t, "Commit", m.Commit(512, 2), api.OK)
	}
	wantCounts(t, m, 510, 2, 0)
}

func TestCommitRefusedUsesNoFill(t *testing.T) {
	m := laid(t, api.Answers{Refuse: []bool{false, false, true, true}, Fill: []uint64{5}}, 3)
	wantCode(t, "Release", m.Release(512, 3), api.OK)
	for range 2 {
		wantCode(t, "Commit", m.Commit(512, 3), api.ErrMemory)
		wantStates(t, m, 512, api.PageReleased, api.PageReleased, api.PageReleased)
	}
	wantCode(t, "Commit", m.Commit(512, 3), api.OK)
	wantWord(t, m, 512*bytes, 5, api.OK)
	wantWord(t, m, 513*bytes, 0, api.OK)
}

// 3.5

func TestRelease(t *testing.T) {
	m := laid(t, api.Answers{Refuse: []bool{false, false, true}}, 8)
	for p := uint64(512); p < 520; p++ {
		wantCode(t, "Store", m.Store(p*bytes, p), api.OK)
	}
	pages := []uint64{511, 512, 513, 514, 515, 516, 517, 518, 519, 520}
	before := tell(m, pages...)
	for _, c := range []struct {
		page, pages uint64
		want        api.Errno
	}{
		{512, 0, api.ErrArg}, {limit - 1, 2, api.ErrArg}, {all, 2, api.ErrArg}, {511, 1, api.ErrState}, {511, 2, api.ErrState}, {519, 2, api.ErrState}, {520, 1, api.ErrState}, {512, 512, api.ErrState}, {0, limit, api.ErrState}, {2048, 1, api.ErrState},
	} {
		if e := m.Release(c.page, c.pages); e != c.want {
			t.Errorf("Release(%d, %d): %d; want %d", c.page, c.pages, e, c.want)
		}
		if !tell(m, pages...).same(before) {
			t.Fatalf("Release(%d, %d) changed something", c.page, c.pages)
		}
	}
	wantCode(t, "Release", m.Release(513, 3), api.OK) // asks the system nothing
	wantStates(t, m, 512, api.PageReady, api.PageReleased, api.PageReleased, api.PageReleased, api.PageReady)
	wantCounts(t, m, 504, 5, 3)
	for _, p := range []uint64{512, 516, 519} {
		wantWord(t, m, p*bytes, p, api.OK)
	}
	for _, p := range []uint64{513, 514, 515} {
		wantWord(t, m, p*bytes, 0, api.ErrFault)
	}
	wantCode(t, "Release again", m.Release(513, 1), api.ErrState)
	wantCode(t, "Release of some again", m.Release(512, 2), api.ErrState)
	wantWord(t, m, 512*bytes, 512, api.OK)
	wantCode(t, "Commit", m.Commit(512, 8), api.ErrMemory)
	wantCode(t, "Commit", m.Commit(512, 8), api.OK)
	for p := uint64(512); p < 520; p++ { // what stood in 513 to 515 is gone
		want := p
		if p >= 513 && p < 516 {
			want = 0
		}
		wantWord(t, m, p*bytes, want, api.OK)
	}
}

// What was filled, and not stored to, is gone as well.
func TestReleaseOfFilled(t *testing.T) {
	m := laid(t, api.Answers{Fill: []uint64{5, 6, 7}}, 3)
	wantCode(t, "Release", m.Release(512, 3), api.OK)
	wantCode(t, "Commit", m.Commit(512, 3), api.OK)
	wantWord(t, m, 514*bytes, 7, api.OK)
	wantCode(t, "Store", m.Store(513*bytes, 1), api.OK)
	wantCode(t, "Release", m.Release(512, 3), api.OK)
	wantCode(t, "Commit", m.Commit(512, 3), api.OK)
	for p := uint64(512); p < 515; p++ {
		wantWord(t, m, p*bytes, 0, api.OK)
		wantWord(t, m, p*bytes+8, 0, api.OK)
	}
}

// 3.6

func TestWordErrors(t *testing.T) {
	m := New(api.Answers{Places: []uint64{limit - 512}})
	wantReserve(t, m, 0, 512, limit-512, api.OK)
	wantReserve(t, m, 0, 512, 512, api.OK)
	wantCode(t, "Commit", m.Commit(512, 3), api.OK)
	wantCode(t, "Commit", m.Commit(limit-1, 1), api.OK)
	wantCode(t, "Release", m.Release(514, 1), api.OK)
	for _, c := range []struct {
		addr uint64
		want api.Errno
	}{
		{512 * bytes, api.OK}, {512*bytes + 8, api.OK}, {513*bytes - 8, api.OK}, {513 * bytes, api.OK}, {514*bytes - 8, api.OK}, {beyond - 8, api.OK}, {beyond - bytes, api.OK},
		{512*bytes - 8, api.ErrFault}, {514 * bytes, api.ErrFault}, {515 * bytes, api.ErrFault}, {0, api.ErrFault}, {beyond - bytes - 8, api.ErrFault}, {beyond, api.ErrFault}, {beyond + 8, api.ErrFault}, {beyond + 512*bytes, api.ErrFault}, {1 << 63, api.ErrFault}, {all - 7, api.ErrFault},
		{512*bytes + 1, api.ErrAlign}, {512*bytes + 4, api.ErrAlign}, {512*bytes + 7, api.ErrAlign}, {1, api.ErrAlign}, {514*bytes + 3, api.ErrAlign}, {beyond + 1, api.ErrAlign}, {beyond - 1, api.ErrAlign}, {all, api.ErrAlign},
	} {
		wantWord(t, m, c.addr, 0, c.want)
		if e := m.Store(c.addr, c.addr+1); e != c.want {
			t.Errorf("Store(%d): %d; want %d", c.addr, e, c.want)
		}
		if c.want == api.OK {
			wantWord(t, m, c.addr, c.addr+1, api.OK)
		} else {
			wantWord(t, m, c.addr, 0, c.want)
		}
	}
	wantStates(t, m, 511, api.PageNone, api.PageReady, api.PageReady, api.PageReleased, api.PageReserved)
	wantWord(t, m, 512*bytes+16, 0, api.OK)
	wantCounts(t, m, 1020, 3, 1)
}

func TestStoreBesideOthers(t *testing.T) {
	m := laid(t, api.Answers{Fill: []uint64{6}}, 3)
	wantCode(t, "Release", m.Release(513, 1), api.OK)
	wantCode(t, "Commit", m.Commit(513, 1), api.OK)
	first := 512 * bytes
	words := 3 * bytes / 8
	for i := range words {
		want := uint64(0)
		if i >= 1024 && i < 2048 {
			want = 6
		}
		wantWord(t, m, first+8*i, want, api.OK)
	}
	for i := range words {
		if i%3 == 0 {
			wantCode(t, "Store", m.Store(first+8*i, all-i), api.OK)
		}
	}
	for i := range words {
		want := uint64(0)
		switch {
		case i%3 == 0:
			want = all - i
		case i >= 1024 && i < 2048:
			want = 6
		}
		wantWord(t, m, first+8*i, want, api.OK)
	}
	wantCode(t, "Store", m.Store(first, 0), api.OK)
	wantWord(t, m, first, 0, api.OK)
}

func TestZeroErrors(t *testing.T) {
	m := New(api.Answers{Places: []uint64{limit - 512}})
	wantReserve(t, m, 0, 512, limit-512, api.OK)
	wantReserve(t, m, 0, 512, 512, api.OK)
	wantCode(t, "Commit", m.Commit(512, 5), api.OK)
	wantCode(t, "Commit", m.Commit(limit-512, 512), api.OK)
	wantCode(t, "Release", m.Release(514, 1), api.OK)
	pages := []uint64{511, 512, 513, 514, 515, 516, 517, limit - 512, limit - 1}
	for _, p := range pages {
		m.Store(p*bytes, 5)
		m.Store(p*bytes+bytes-8, 5)
	}
	before := tell(m, pages...)
	a := 512 * bytes
	for _, c := range []struct {
		addr, n uint64
		want    api.Errno
	}{
		{a + 1, 8, api.ErrAlign}, {a, 7, api.ErrAlign}, {a + 4, 4, api.ErrAlign}, {a + 4, 0, api.ErrAlign}, {all, 0, api.ErrAlign}, {a, all, api.ErrAlign}, {3, 3, api.ErrAlign}, {1, 8, api.ErrAlign}, {beyond + 1, 16, api.ErrAlign},
		{a, 0, api.OK}, {0, 0, api.OK}, {514 * bytes, 0, api.OK}, {beyond, 0, api.OK}, {1 << 60, 0, api.OK}, {all - 7, 0, api.OK},
		{a - 8, 8, api.ErrFault}, {a - 8, 16, api.ErrFault}, {a, 2*bytes + 8, api.ErrFault}, {a, 3 * bytes, api.ErrFault}, {a, 5 * bytes, api.ErrFault}, {514 * bytes, 8, api.ErrFault}, {515*bytes - 8, 16, api.ErrFault}, {516 * bytes, bytes + 8, api.ErrFault}, {0, 8, api.ErrFault},
		{beyond, 8, api.ErrFault}, {beyond - 8, 16, api.ErrFault}, {beyond - bytes, bytes + 8, api.ErrFault}, {0, beyond, api.ErrFault}, {0, 1 << 63, api.ErrFault}, {0, all - 7, api.ErrFault}, {1 << 63, 1 << 63, api.ErrFault}, {all - 7, 8, api.ErrFault}, {all - 7, 16, api.ErrFault}, {all - 7, all - 7, api.ErrFault},
		// The sum of both wraps round, into a page that is ready.
		{beyond - 8, all - beyond + 512*bytes + 25, api.ErrFault}, {a, all - 7, api.ErrFault}, {a + 8, all - 7, api.ErrFault}, {beyond - 8, all - 7, api.ErrFault},
	} {
		if e := m.Zero(c.addr, c.n); e != c.want {
			t.Errorf("Zero(%d, %d): %d; want %d", c.addr, c.n, e, c.want)
		}
		if !tell(m, pages...).same(before) {
			t.Fatalf("Zero(%d, %d) changed something", c.addr, c.n)
		}
	}
	wantCode(t, "Zero up to the end of the space", m.Zero(beyond-8, 8), api.OK)
	wantWord(t, m, beyond-8, 0, api.OK)
	wantWord(t, m, beyond-bytes, 5, api.OK)
	wantCode(t, "Zero up to the end of the space", m.Zero(beyond-512*bytes, 512*bytes), api.OK)
	wantWord(t, m, beyond-bytes, 0, api.OK)
	wantWord(t, m, beyond-512*bytes, 0, api.OK)
}

// Each Zero of words around the bounds of pages, of pages that were filled,
// stored to, both, and neither.
func TestZeroWords(t *testing.T) {
	ends := []uint64{0, 1, 2, 512, 1022, 1023, 1024, 1025, 1026, 2047, 2048, 2049, 3071, 3072, 3073, 4095, 4096}
	first := 512 * bytes
	for _, from := range ends {
		for _, to := range ends {
			if to < from {
				continue
			}
			m, want := zeroable(t)
			wantCode(t, "Zero", m.Zero(first+8*from, 8*(to-from)), api.OK)
			clear(want[from:to])
			for i, w := range want {
				if got, e := m.Load(first + 8*uint64(i)); got != w || e != api.OK {
					t.Fatalf("word %d behind Zero of %d to %d: %d, %d; want %d", i, from, to, got, e, w)
				}
			}
			wantCounts(t, m, 508, 4, 0)
		}
	}
}

// zeroable is a space with four pages that are ready, and what their words are.
func zeroable(t *testing.T) (*Mem, []uint64) {
	t.Helper()
	m := laid(t, api.Answers{Fill: []uint64{6, 7}}, 4)
	wantCode(t, "Release", m.Release(513, 2), api.OK)
	wantCode(t, "Commit", m.Commit(513, 2), api.OK)
	want := make([]uint64, 4096)
	for i := range want {
		switch i / 1024 {
		case 1:
			want[i] = 6
		case 2:
			want[i] = 7
		}
	}
	for i := uint64(0); i < 2048; i += 5 {
		wantCode(t, "Store", m.Store(512*bytes+8*i, 1000+i), api.OK)
		want[i] = 1000 + i
	}
	return m, want
}

// 3.7

// model is a space as plain as can be: all that it has is kept one by one.
type model struct {
	a      api.Answers
	states map[uint64]int
	words  map[uint64]uint64 // by their addresses; those that are not there are 0
}

func (o *model) refused() bool {
	if len(o.a.Refuse) == 0 {
		return false
	}
	no := o.a.Refuse[0]
	o.a.Refuse = o.a.Refuse[1:]
	return no
}

func (o *model) free(first, pages uint64) bool {
	if first == 0 || first%512 != 0 || first >= limit || pages > limit-first {
		return false
	}
	for p := first; p < first+pages; p++ {
		if o.states[p] != api.PageNone {
			return false
		}
	}
	return true
}

func (o *model) place(hint, pages uint64) uint64 {
	if len(o.a.Places) != 0 {
		named := o.a.Places[0]
		o.a.Places = o.a.Places[1:]
		if o.free(named, pages) {
			return named
		}
	}
	for _, from := range []uint64{hint, 0} {
		for first := from - from%512; first < limit; first += 512 {
			if first >= from && o.free(first, pages) {
				return first
			}
		}
	}
	return 0
}

func (o *model) reserve(hint, pages uint64) (uint64, api.Errno) {
	if pages == 0 || pages%512 != 0 || pages > 1<<27 {
		return 0, api.ErrArg
	}
	if o.refused() {
		return 0, api.ErrMemory
	}
	first := o.place(hint, pages)
	if first == 0 {
		return 0, api.ErrMemory
	}
	for p := first; p < first+pages; p++ {
		o.states[p] = api.PageReserved
	}
	return first, api.OK
}

// has is how many pages of a row are in a state.
func (o *model) has(page, pages uint64, state int) uint64 {
	n := uint64(0)
	for p := page; p < page+pages; p++ {
		if o.states[p] == state {
			n++
		}
	}
	return n
}

func (o *model) commit(page, pages uint64) api.Errno {
	switch {
	case pages == 0 || page >= limit || pages > limit-page:
		return api.ErrArg
	case o.has(page, pages, api.PageNone) != 0:
		return api.ErrState
	case o.has(page, pages, api.PageReady) == pages:
		return api.OK
	case o.refused():
		return api.ErrMemory
	}
	for p := page; p < page+pages; p++ {
		if o.states[p] == api.PageReleased && len(o.a.Fill) != 0 {
			for at := p * bytes; at < (p+1)*bytes; at += 8 {
				o.words[at] = o.a.Fill[0]
			}
			o.a.Fill = o.a.Fill[1:]
		}
		o.states[p] = api.PageReady
	}
	return api.OK
}

func (o *model) release(page, pages uint64) api.Errno {
	switch {
	case pages == 0 || page >= limit || pages > limit-page:
		return api.ErrArg
	case o.has(page, pages, api.PageReady) != pages:
		return api.ErrState
	}
	for p := page; p < page+pages; p++ {
		o.states[p] = api.PageReleased
		for at := p * bytes; at < (p+1)*bytes; at += 8 {
			delete(o.words, at)
		}
	}
	return api.OK
}

func (o *model) touch(addr uint64) api.Errno {
	switch {
	case addr%8 != 0:
		return api.ErrAlign
	case o.states[addr/bytes] != api.PageReady:
		return api.ErrFault
	}
	return api.OK
}

func (o *model) load(addr uint64) (uint64, api.Errno) {
	if e := o.touch(addr); e != api.OK {
		return 0, e
	}
	return o.words[addr], api.OK
}

func (o *model) store(addr, x uint64) api.Errno {
	e := o.touch(addr)
	if e == api.OK {
		o.words[addr] = x
	}
	return e
}

func (o *model) zero(addr, n uint64) api.Errno {
	if addr%8 != 0 || n%8 != 0 {
		return api.ErrAlign
	}
	for at := addr; at < addr+n; at += 8 {
		if o.states[at/bytes] != api.PageReady {
			return api.ErrFault
		}
	}
	for at := addr; at < addr+n; at += 8 {
		delete(o.words, at)
	}
	return api.OK
}

// noise is numbers without a pattern, the same ones each time.
type noise uint64

func (x *noise) below(n uint64) uint64 {
	*x ^= *x << 13
	*x ^= *x >> 7
	*x ^= *x << 17
	return uint64(*x) >> 11 % n
}

func (x *noise) answers() api.Answers {
	var a api.Answers
	for range x.below(8) {
		a.Places = append(a.Places, []uint64{512 * x.below(12), 512 * x.below(12), x.below(5000), limit - 512, all}[x.below(5)])
	}
	for range x.below(60) {
		a.Refuse = append(a.Refuse, x.below(4) == 0)
	}
	for range x.below(100) {
		a.Fill = append(a.Fill, x.below(3)*(1+x.below(1000)))
	}
	return a
}

// twin is a space and its model, that are asked the same.
type twin struct {
	t *testing.T
	m *Mem
	o *model
}

// step asks one thing, that x picks.
func (w twin) step(x *noise) {
	page, pages := 500+x.below(40), x.below(12)
	if x.below(3) == 0 {
		page = 1015 + x.below(20)
	}
	addr := page*bytes + 8*[]uint64{0, 1, 512, 1023, x.below(1024)}[x.below(5)] + x.below(16)/15
	switch x.below(12) {
	case 0:
		hint, n := []uint64{x.below(4000), x.below(4000), limit - x.below(2000), all - x.below(2000)}[x.below(4)], []uint64{512, 512, 1024, 1536, 0, 5}[x.below(6)]
		got, e := w.m.Reserve(hint, n)
		want, we := w.o.reserve(hint, n)
		w.same("Reserve", hint, n, got, want, e, we)
	case 1, 2, 3:
		w.same("Commit", page, pages, 0, 0, w.m.Commit(page, pages), w.o.commit(page, pages))
	case 4, 5:
		w.same("Release", page, pages/3, 0, 0, w.m.Release(page, pages/3), w.o.release(page, pages/3))
	case 6, 7:
		n := 8*x.below(3000) + x.below(16)/15
		w.same("Zero", addr, n, 0, 0, w.m.Zero(addr, n), w.o.zero(addr, n))
	case 8:
		got, e := w.m.Load(addr)
		want, we := w.o.load(addr)
		w.same("Load", addr, 0, got, want, e, we)
	default:
		v := x.below(1 << 40)
		w.same("Store", addr, v, 0, 0, w.m.Store(addr, v), w.o.store(addr, v))
	}
}

func (w twin) same(name string, a, b, got, want uint64, e, we api.Errno) {
	w.t.Helper()
	if got != want || e != we {
		w.t.Fatalf("%s(%d, %d): %d, %d; want %d, %d", name, a, b, got, e, want, we)
	}
}

// whole holds all that the space tells against the model.
func (w twin) whole() {
	w.t.Helper()
	var counts [4]uint64
	for p, state := range w.o.states {
		counts[state]++
		if got := w.m.State(p); got != state {
			w.t.Fatalf("State(%d): %d; want %d", p, got, state)
		}
		if state != api.PageReady {
			continue
		}
		for at := p * bytes; at < (p+1)*bytes; at += 8 {
			if got, e := w.m.Load(at); got != w.o.words[at] || e != api.OK {
				w.t.Fatalf("Load(%d): %d, %d; want %d", at, got, e, w.o.words[at])
			}
		}
	}
	wantCounts(w.t, w.m, counts[1], counts[2], counts[3])
	for i, r := range w.m.rows.list {
		if i > 0 && (r.first <= w.m.rows.list[i-1].first || r.state == w.m.rows.list[i-1].state) {
			w.t.Fatalf("rows: %v", w.m.rows.list)
		}
	}
}

func TestAgainstModel(t *testing.T) {
	x := noise(0x9e3779b97f4a7c15)
	for range 60 {
		a := x.answers()
		w := twin{t, New(a), &model{a, map[uint64]int{}, map[uint64]uint64{}}}
		for i := range 500 {
			w.step(&x)
			if i%100 == 99 {
				w.whole()
			}
		}
	}
}

// What is asked of a page says nothing of its state; what fails leaves it.
func TestStatesChangeInNoOtherWay(t *testing.T) {
	m := laid(t, api.Answers{}, 4)
	wantCode(t, "Release", m.Release(514, 1), api.OK)
	pages := []uint64{0, 511, 512, 513, 514, 515, 516, 1023, 1024, limit - 1}
	before := tell(m, pages...)
	for _, p := range pages {
		m.Load(p * bytes)
		m.Zero(p*bytes, bytes)
		m.Zero(p*bytes, 3*bytes)
		m.Store(p*bytes, 0)
		m.State(p)
		m.Count(int(p))
		m.Reserve(p, 5)
		m.Commit(p, 0)
		m.Release(p, limit)
	}
	if !tell(m, pages...).same(before) {
		t.Error("something is changed")
	}
}

// What DOC.md says of all: R1, R6

// Numbers near the bounds of all that is handed in: every call ends.
func TestEveryCallEnds(t *testing.T) {
	numbers := []uint64{0, 1, 7, 8, 511, 512, 513, 4096, 8191, 8192, 1 << 27, 1<<27 + 512, limit - 512, limit - 1, limit, limit + 1, beyond - 8, beyond, beyond + 8, 1 << 63, all - 511, all - 7, all}
	m := New(api.Answers{Places: numbers, Fill: numbers})
	for _, a := range numbers {
		for _, b := range numbers {
			m.Reserve(a, b)
			m.Commit(a, b)
			m.Store(a, b)
			m.Load(b)
			m.Zero(a, b)
			m.Release(a, b)
			m.State(a)
			m.Count(int(b))
		}
	}
}

// Rows of very many pages keep no more than short ones.
func TestKeptDoesNotGrowWithNumbers(t *testing.T) {
	m := full(t, api.Answers{Fill: []uint64{4, 5}})
	for range 200 {
		for _, e := range []api.Errno{
			m.Commit(512, limit-512), m.Store(700*bytes, 1), m.Store(beyond-8, 2), m.Zero(512*bytes+8, beyond-512*bytes-8), m.Release(512, limit-512),
		} {
			wantCode(t, "a call over all of the space", e, api.OK)
		}
	}
	wantCounts(t, m, 0, 0, limit-512)
	if len(m.rows.list) != 2 || len(m.words.pages) != 0 || len(m.words.fills) != 0 {
		t.Errorf("kept: %d rows, %d pages, %d fills", len(m.rows.list), len(m.words.pages), len(m.words.fills))
	}
}

// 1000 pages that are made ready and released one by one, in any order, end
// as one row.
func TestRowsAreJoined(t *testing.T) {
	m := New(api.Answers{})
	wantReserve(t, m, 0, 1024, 512, api.OK)
	for i := range uint64(1024) {
		wantCode(t, "Commit", m.Commit(512+i*389%1024, 1), api.OK)
	}
	if len(m.rows.list) != 3 {
		t.Errorf("%d rows; want 3", len(m.rows.list))
	}
	for i := range uint64(1024) {
		wantCode(t, "Release", m.Release(512+i*147%1024, 1), api.OK)
		wantCounts(t, m, 0, 1023-i, i+1)
	}
	if len(m.rows.list) != 3 {
		t.Errorf("%d rows; want 3", len(m.rows.list))
	}
}

// Only a fault of the space is answered as one.
func TestGuard(t *testing.T) {
	wantCode(t, "no fault", guard(func() {}), api.OK)
	wantCode(t, "a fault", guard(func() { panic(fault{api.ErrFault}) }), api.ErrFault)
	defer func() {
		if r := recover(); r != "else" {
			t.Error("another panic: ", r)
		}
	}()
	guard(func() { panic("else") })
}

func TestExamples(t *testing.T) {
	m := New(api.Answers{Places: []uint64{1024}, Refuse: []bool{false, false, true}, Fill: []uint64{7}})
	wantReserve(t, m, 0, 512, 1024, api.OK)
	wantReserve(t, m, 0, 512, 512, api.OK)
	wantCode(t, "Commit", m.Commit(1024, 2), api.ErrMemory)
	wantCode(t, "Commit", m.Commit(512, 1), api.OK)
	wantCode(t, "Store", m.Store(8192*512, 5), api.OK)
	wantCode(t, "Release", m.Release(512, 1), api.OK)
	wantWord(t, m, 8192*512, 0, api.ErrFault)
	wantCode(t, "Commit", m.Commit(512, 1), api.OK)
	wantWord(t, m, 8192*512+8, 7, api.OK)
	wantReserve(t, m, 0, 5, 0, api.ErrArg)
	wantCode(t, "Release", m.Release(513, 1), api.ErrState)
	wantWord(t, m, 3, 0, api.ErrAlign)
	wantWord(t, m, 0, 0, api.ErrFault)
}
