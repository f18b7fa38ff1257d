package mheap

import (
	"fmt"
	"maps"
	"math"
	"slices"
	"testing"

	"mallow/api"
	"mallow/class"
	"mallow/span"
	"mallow/vmem"
)

const (
	pageBytes  = 8192
	chunkPages = 512
	allPages   = 1 << 35
	maxInt     = math.MaxInt
	minInt     = math.MinInt
	greatest   = math.MaxUint64
)

// Whose a page is, as 16.5 has it.
const (
	nobodys = 0
	trees   = 1
	caches  = 2
	spans   = 3
)

// page is one of an arena: whose it is, whether the tree or a cache has it as
// released, its state in the address space, and its first and its last word.
type page struct {
	what, who int
	released  bool
	state     int
	words     [2]uint64
}

// life is a span: its first page, and what it tells of itself.
type life struct {
	first uint64
	info  api.Info
	self  *span.Span
}

// model is a heap with its address space, page by page.
type model struct {
	pages  map[uint64]*page
	spans  map[int]*life
	back   []int // numbers that were given back, and are not out again
	last   int   // the greatest number that was ever out
	behind uint64
	ahead  api.Answers
}

func newModel(a api.Answers) *model {
	return &model{
		pages: map[uint64]*page{},
		spans: map[int]*life{},
		ahead: api.Answers{Places: slices.Clone(a.Places), Refuse: slices.Clone(a.Refuse), Fill: slices.Clone(a.Fill)},
	}
}

func (m *model) rising() []uint64 {
	return slices.Sorted(maps.Keys(m.pages))
}

func (m *model) is(at uint64, what, who int) bool {
	p, ok := m.pages[at]
	return ok && p.what == what && p.who == who
}

// first is where the first n pages in a row begin that are one's.
func (m *model) first(n uint64, what, who int) (uint64, bool) {
	var long uint64
	for i, l := 0, m.rising(); i < len(l); i++ {
		if i > 0 && l[i] != l[i-1]+1 {
			long = 0
		}
		if !m.is(l[i], what, who) {
			long = 0
			continue
		}
		if long++; long == n {
			return l[i] - n + 1, true
		}
	}
	return 0, false
}

func (m *model) has(what, who int) bool {
	for _, p := range m.pages {
		if p.what == what && p.who == who {
			return true
		}
	}
	return false
}

// fill has the cache of a P take the free pages of the block of the first one.
func (m *model) fill(p int) {
	at, ok := m.first(1, trees, 0)
	if !ok {
		return
	}
	for i := at / 64 * 64; i < at/64*64+64; i++ {
		if m.is(i, trees, 0) {
			m.pages[i].what, m.pages[i].who = caches, p
		}
	}
}

func (m *model) refused() bool {
	if len(m.ahead.Refuse) == 0 {
		return false
	}
	no := m.ahead.Refuse[0]
	m.ahead.Refuse = m.ahead.Refuse[1:]
	return no
}

// may tells whether n pages can be laid out from one on.
func (m *model) may(at, n uint64) bool {
	if at%chunkPages != 0 || at == 0 || n > allPages || at > allPages-n {
		return false
	}
	for i := at; i < at+n; i += chunkPages {
		if _, ok := m.pages[i]; ok {
			return false
		}
	}
	return true
}

// place is where the address space lays n pages out. There is room behind
// whatever a test has, or ahead of it.
func (m *model) place(n uint64) uint64 {
	if len(m.ahead.Places) > 0 {
		at := m.ahead.Places[0]
		m.ahead.Places = m.ahead.Places[1:]
		if m.may(at, n) {
			return at
		}
	}
	for at := (m.behind + chunkPages - 1) / chunkPages * chunkPages; at+n <= allPages; at += chunkPages {
		if m.may(at, n) {
			return at
		}
	}
	at := uint64(chunkPages)
	for !m.may(at, n) {
		at += chunkPages
	}
	return at
}

func (m *model) grow(n uint64) api.Errno {
	n = (n + chunkPages - 1) / chunkPages * chunkPages
	if m.refused() {
		return api.ErrMemory
	}
	at := m.place(n)
	for i := at; i < at+n; i++ {
		m.pages[i] = &page{what: trees, released: true, state: api.PageReserved}
	}
	m.behind = at + n
	return api.OK
}

// find is where n pages are found for a P: 16.1's steps 1 to 3.
func (m *model) find(p int, n uint64) (uint64, api.Errno) {
	if p >= 0 && p <= 63 && n < 16 {
		if !m.has(caches, p) {
			m.fill(p)
		}
		if at, ok := m.first(n, caches, p); ok {
			return at, api.OK
		}
	}
	if at, ok := m.first(n, trees, 0); ok {
		return at, api.OK
	}
	if e := m.grow(n); e != api.OK {
		return 0, e
	}
	at, _ := m.first(n, trees, 0)
	return at, api.OK
}

// commit makes pages ready, or gives them back to the tree: step 4.
func (m *model) commit(at, n uint64) api.Errno {
	unready := false
	for i := at; i < at+n; i++ {
		unready = unready || m.pages[i].state != api.PageReady
	}
	refused := unready && m.refused()
	for i := at; i < at+n; i++ {
		p := m.pages[i]
		if refused {
			*p = page{what: trees, released: p.state != api.PageReady, state: p.state, words: p.words}
			continue
		}
		if p.state == api.PageReleased && len(m.ahead.Fill) > 0 {
			p.words = [2]uint64{m.ahead.Fill[0], m.ahead.Fill[0]}
			m.ahead.Fill = m.ahead.Fill[1:]
		}
		p.state, p.released = api.PageReady, false
	}
	if refused {
		return api.ErrMemory
	}
	return api.OK
}

func (m *model) newSpan(p int, n uint64, info api.Info) (int, api.Errno) {
	at, e := m.find(p, n)
	if e != api.OK {
		return 0, e
	}
	if e := m.commit(at, n); e != api.OK {
		return 0, e
	}
	id := m.last + 1
	if k := len(m.back); k > 0 {
		id, m.back = m.back[k-1], m.back[:k-1]
	} else {
		m.last++
	}
	info.Base, info.Pages = at*pageBytes, int(n)
	info.Slots = int(n) * pageBytes / info.Elem
	m.spans[id] = &life{first: at, info: info}
	for i := at; i < at+n; i++ {
		m.pages[i].what, m.pages[i].who = spans, id
	}
	return id, api.OK
}

func (m *model) alloc(p int, n uint64, number int, noptr bool) (int, api.Errno) {
	if n == 0 || n > 1<<27 || number < 0 || number > 67 {
		return 0, api.ErrArg
	}
	info := api.Info{State: api.SpanInUse, Class: number, NoPtr: noptr, Elem: int(n) * pageBytes}
	if number > 0 {
		c := class.Table()[number]
		if n != uint64(c.Pages) {
			return 0, api.ErrArg
		}
		info.Elem = c.Size
	}
	return m.newSpan(p, n, info)
}

func (m *model) manual(n uint64, elem int) (int, api.Errno) {
	if n == 0 || n > 1<<27 || elem < 8 || elem > int(n)*pageBytes {
		return 0, api.ErrArg
	}
	return m.newSpan(-1, n, api.Info{State: api.SpanManual, Elem: elem})
}

func (m *model) free(id int) api.Errno {
	s, ok := m.spans[id]
	if !ok {
		return api.ErrNone
	}
	if s.info.State == api.SpanDead || s.info.Used > 0 {
		return api.ErrState
	}
	for i := s.first; i < s.first+uint64(s.info.Pages); i++ {
		m.pages[i].what, m.pages[i].who = trees, 0
	}
	delete(m.spans, id)
	m.back = append(m.back, id)
	return api.OK
}

func (m *model) flush(p int) {
	for _, x := range m.pages {
		if x.what == caches && x.who == p {
			x.what, x.who = trees, 0
		}
	}
}

// scavenge goes from the highest page down. The rows that it releases at once are
// of no account here.
func (m *model) scavenge(most uint64) uint64 {
	var n uint64
	l := m.rising()
	slices.Reverse(l)
	for _, at := range l {
		p := m.pages[at]
		if n < most && p.what == trees && !p.released {
			*p = page{what: trees, released: true, state: api.PageReleased}
			n++
		}
	}
	return n
}

// twin is a heap, and its model.
type twin struct {
	*testing.T
	h    *Heap
	m    *model
	what string // that was done to it last
}

func twinOf(t *testing.T, a api.Answers) *twin {
	return &twin{T: t, h: New(vmem.New(a)), m: newModel(a), what: "new"}
}

// wrong ends the test.
func (w *twin) wrong(what string, args ...any) {
	w.Helper()
	w.Fatalf("behind %s: %s", w.what, fmt.Sprintf(what, args...))
}

func (w *twin) alloc(p int, n uint64, number int, noptr bool) (int, api.Errno) {
	w.Helper()
	w.what = fmt.Sprintf("Alloc(%d, %d, %d, %t)", p, n, number, noptr)
	id, e := w.h.Alloc(p, n, number, noptr)
	wantID, wantE := w.m.alloc(p, n, number, noptr)
	if id != wantID || e != wantE {
		w.wrong("%d, %d, want %d, %d", id, e, wantID, wantE)
	}
	w.check()
	return id, e
}

func (w *twin) manual(n uint64, elem int) (int, api.Errno) {
	w.Helper()
	w.what = fmt.Sprintf("Manual(%d, %d)", n, elem)
	id, e := w.h.Manual(n, elem)
	wantID, wantE := w.m.manual(n, elem)
	if id != wantID || e != wantE {
		w.wrong("%d, %d, want %d, %d", id, e, wantID, wantE)
	}
	w.check()
	return id, e
}

func (w *twin) free(id int) api.Errno {
	w.Helper()
	w.what = fmt.Sprintf("Free(%d)", id)
	e, want := w.h.Free(id), w.m.free(id)
	if e != want {
		w.wrong("%d, want %d", e, want)
	}
	w.check()
	return e
}

func (w *twin) flush(p int) {
	w.Helper()
	w.what = fmt.Sprintf("Flush(%d)", p)
	w.h.Flush(p)
	w.m.flush(p)
	w.check()
}

func (w *twin) scavenge(most uint64) uint64 {
	w.Helper()
	w.what = fmt.Sprintf("Scavenge(%d)", most)
	n, want := w.h.Scavenge(most), w.m.scavenge(most)
	if n != want {
		w.wrong("%d, want %d", n, want)
	}
	w.check()
	return n
}

// use takes the next slot of a span, if it has a free one there.
func (w *twin) use(id int) {
	w.Helper()
	w.what = fmt.Sprintf("Next of span %d", id)
	s, _ := w.h.Span(id)
	if _, e := s.Next(); e == api.OK {
		w.m.spans[id].info.Used++
	}
	w.check()
}

// unuse frees all slots of a span.
func (w *twin) unuse(id int) {
	w.Helper()
	w.what = fmt.Sprintf("all slots of span %d free", id)
	s, _ := w.h.Span(id)
	s.Sweep()
	for i := range s.Info().Slots {
		s.Give(i)
	}
	w.m.spans[id].info.Used = 0
	w.check()
}

// die makes a span dead that the heap still has.
func (w *twin) die(id int) {
	w.Helper()
	w.what = fmt.Sprintf("Die of span %d", id)
	s, _ := w.h.Span(id)
	if e := s.Die(); e != api.OK {
		w.wrong("%d", e)
	}
	w.m.spans[id].info.State = api.SpanDead
	w.check()
}

// store sets the first and the last word of a page of a span.
func (w *twin) store(at, x uint64) {
	w.Helper()
	w.what = fmt.Sprintf("Store in page %d", at)
	w.h.Mem().Store(at*pageBytes, x)
	w.h.Mem().Store(at*pageBytes+pageBytes-8, ^x)
	w.m.pages[at].words = [2]uint64{x, ^x}
	w.check()
}

// check asks the heap for all that it tells.
func (w *twin) check() {
	w.Helper()
	w.checkPages()
	w.checkBeside()
	w.checkSpans()
	w.checkCounts()
}

// 16.5, 16.6: each page of an arena: whose it is, whether it is released, and
// what stands in it.
func (w *twin) checkPages() {
	w.Helper()
	for at, p := range w.m.pages {
		if what, who := w.h.Owner(at); what != p.what || who != p.who {
			w.wrong("Owner(%d): %d, %d, want %d, %d", at, what, who, p.what, p.who)
		}
		id := 0
		if p.what == spans {
			id = p.who
		}
		for _, off := range []uint64{0, 1 + at%8000, pageBytes - 1} {
			if of := w.h.Of(at*pageBytes + off); of != id {
				w.wrong("Of byte %d of page %d: %d, want %d", off, at, of, id)
			}
		}
		if state := w.h.Mem().State(at); state != p.state || (state == api.PageReady) == p.released {
			w.wrong("page %d is in state %d, want %d", at, state, p.state)
		}
		if is := w.released(at, p); is != p.released {
			w.wrong("page %d: released: %t, want %t", at, is, p.released)
		}
		w.checkWords(at, p)
	}
}

// released tells whether a page is so where it lies.
func (w *twin) released(at uint64, p *page) bool {
	switch p.what {
	case trees:
		_, _, is := w.h.tree.State(at)
		return is
	case caches:
		block, _, released := w.h.caches[p.who].Tell()
		return released>>(at-block)&1 == 1
	}
	return false
}

func (w *twin) checkWords(at uint64, p *page) {
	w.Helper()
	for i, off := range []uint64{0, pageBytes - 8} {
		x, e := w.h.Mem().Load(at*pageBytes + off)
		if p.state != api.PageReady {
			if e != api.ErrFault {
				w.wrong("Load in page %d: %d", at, e)
			}
			continue
		}
		if x != p.words[i] || e != api.OK {
			w.wrong("Load in page %d: %d, %d, want %d", at, x, e, p.words[i])
		}
	}
}

// W2: Owner and Of of what lies in no arena, of numbers of all sizes.
func (w *twin) checkBeside() {
	w.Helper()
	l := []uint64{0, 511, 512, 1023, 1024, allPages - 513, allPages - 512, allPages - 1, allPages, allPages + 512, 1 << 47, 1 << 48, 1<<51 - 1}
	far := []uint64{1 << 51, 1<<51 + 512, 1 << 52, 1 << 61, 1 << 62, 1 << 63, greatest - 511, greatest}
	for at := range w.m.pages {
		if at%chunkPages == 0 {
			l = append(l, at-1, at-chunkPages, at+chunkPages, at+1<<35, at+1<<50)
			far = append(far, at+1<<51, at+1<<61, at+1<<63)
		}
	}
	for _, at := range l {
		if _, ok := w.m.pages[at]; ok {
			continue
		}
		what, who := w.h.Owner(at)
		if of, end := w.h.Of(at*pageBytes), w.h.Of(at*pageBytes+pageBytes-1); what != 0 || who != 0 || of != 0 || end != 0 {
			w.wrong("page %d in no arena: Owner %d, %d, Of %d, %d", at, what, who, of, end)
		}
	}
	for _, at := range far {
		if what, who := w.h.Owner(at); what != 0 || who != 0 {
			w.wrong("Owner(%d): %d, %d", at, what, who)
		}
		if of := w.h.Of(at); at >= 1<<48 && of != 0 {
			w.wrong("Of(%d): %d", at, of)
		}
	}
}

// 16.3: each span, and the numbers that are none's.
func (w *twin) checkSpans() {
	w.Helper()
	want := slices.SortedFunc(maps.Keys(w.m.spans), func(a, b int) int {
		return int(w.m.spans[a].first) - int(w.m.spans[b].first)
	})
	if l := w.h.Spans(); !slices.Equal(l, want) {
		w.wrong("Spans: %d, want %d", l, want)
	}
	for id, is := range w.m.spans {
		s, e := w.h.Span(id)
		if e != api.OK || s.Info() != is.info {
			w.wrong("Span(%d): %d, want %v", id, e, is.info)
		}
		if is.self != nil && s != is.self {
			w.wrong("Span(%d) is another object", id)
		}
		is.self = s
	}
	for _, id := range append([]int{minInt, minInt + 1, -1, 0, w.m.last + 1, maxInt - 1, maxInt}, w.m.back...) {
		if s, e := w.h.Span(id); s != nil || e != api.ErrNone {
			w.wrong("Span(%d): %d", id, e)
		}
	}
}

// 16.5: what Pages tells; and no cache has a page that is not its own.
func (w *twin) checkCounts() {
	w.Helper()
	var held, released uint64
	var has [64]uint64
	for at, p := range w.m.pages {
		if p.what == spans {
			held++
		}
		if p.released {
			released++
		}
		if p.what == caches {
			has[p.who] |= 1 << (at % 64)
		}
	}
	all := uint64(len(w.m.pages))
	if a, s, r := w.h.Pages(); a != all || s != held || r != released {
		w.wrong("Pages: %d, %d, %d, want %d, %d, %d", a, s, r, all, held, released)
	}
	for p, c := range w.h.caches {
		if _, pages, _ := c.Tell(); pages != has[p] {
			w.wrong("the cache of %d has %b, want %b", p, pages, has[p])
		}
	}
	var count int
	for range w.h.arenas.Chunks() {
		count++
	}
	if count*chunkPages != len(w.m.pages) || w.h.records.Count() != len(w.m.spans) {
		w.wrong("%d arenas, %d records", count, w.h.records.Count())
	}
}

// chance makes numbers below one that look like chance, the same ones each time.
func chance(seed uint64) func(n uint64) uint64 {
	return func(n uint64) uint64 {
		seed = seed*6364136223846793005 + 1442695040888963407
		return seed >> 33 % n
	}
}
