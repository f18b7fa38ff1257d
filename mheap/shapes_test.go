package mheap

import (
	"runtime"
	"testing"

	"mallow/api"
	"mallow/vmem"
)

// Growth is deferred in get: what was got has gone back by the time that it
// answers, as had; and a page that is refused is not told (R3).
func TestGotGoesBack(t *testing.T) {
	h := New(vmem.New(api.Answers{Refuse: []bool{false, true, false, true, true}}))
	if page, e := h.get(0, 3); page != 0 || e != api.ErrMemory || h.tree.Free() != 512 || h.tree.Released() != 512 {
		t.Error("refused: ", page, e, h.tree.Free(), h.tree.Released())
	}
	if page, e := h.get(-1, 3); page != 512 || e != api.OK || h.tree.Free() != 509 {
		t.Error("granted: ", page, e, h.tree.Free())
	}
	if page, e := h.get(0, 600); page != 0 || e != api.ErrMemory || h.tree.Free() != 509 {
		t.Error("no growth: ", page, e, h.tree.Free())
	}
	h.tree.Give(512, 3)
	if page, e := h.get(-1, 5); page != 0 || e != api.ErrMemory || h.tree.Free() != 512 || h.tree.Released() != 509 {
		t.Error("of both kinds: ", page, e, h.tree.Free(), h.tree.Released())
	}
}

// 16.6: alike rows end where a page is ready and the one ahead of it is not, or
// the other way round, or where the row does.
func TestAlike(t *testing.T) {
	m := vmem.New(api.Answers{})
	m.Reserve(0, 512)
	for _, at := range []uint64{514, 515, 519} {
		m.Commit(at, 1)
	}
	h := New(m)
	for _, x := range []struct {
		r    row
		want uint64
	}{
		{row{512, 8, 5}, 2}, {row{514, 6, 3}, 2}, {row{516, 4, 3}, 3}, {row{519, 1, 0}, 1}, {row{515, 5, 3}, 1}, {row{512, 2, 2}, 2},
		{row{514, 2, 0}, 2}, {row{516, 3, 3}, 3}, {row{519, 20, 19}, 1}, {row{520, 1 << 27, 1 << 27}, 1 << 27},
	} {
		if n := h.alike(x.r); n != x.want {
			t.Errorf("%v: %d", x, n)
		}
	}
}

// kept is how many bytes are, more or less.
func kept() uint64 {
	runtime.GC()
	var m runtime.MemStats
	runtime.ReadMemStats(&m)
	return m.HeapAlloc
}

// R6: what is kept does not grow with the numbers that are handed in: calls that
// are refused, and such as only ask, keep nothing; a span that is made again and
// again keeps no more than once; and of a span of 2^27 pages none is kept by itself.
func TestKept(t *testing.T) {
	h := New(vmem.New(api.Answers{Refuse: []bool{true}}))
	h.Alloc(0, 1<<27, 0, false)
	for _, n := range []uint64{1 << 20, 1 << 34, 1 << 62, greatest} {
		h.Alloc(int(n>>1), max(n, 1<<27+1), 0, false)
		h.Manual(max(n, 1<<27+1), 8)
		h.Free(int(n >> 1))
		h.Span(int(n >> 1))
		h.Of(n)
		h.Owner(n)
		h.Flush(int(n >> 1))
		h.Scavenge(n)
	}
	if len(h.spans) != 0 || h.records.Bytes() != 0 || h.grown != 0 || h.behind != 0 || h.Mem().Count(api.PageReserved) != 0 {
		t.Error("refused calls are kept")
	}
	for range 300 {
		id, e := h.Alloc(0, 7, 0, false)
		if id != 1 || e != api.OK || h.Free(id) != api.OK {
			t.Fatal("Alloc: ", id, e)
		}
		h.Flush(0)
	}
	if len(h.spans) != 0 || h.records.Count() != 0 || h.grown != 512 || h.held != 0 {
		t.Error("what was freed is kept")
	}
	before := kept()
	h.Manual(1<<27, 8)
	if now := kept(); now > before+1<<26 {
		t.Errorf("a span of 2^27 pages keeps %d bytes", now-before)
	}
	runtime.KeepAlive(h)
}

// R1: a heap that New did not make is one over a space without answers.
func TestNotMadeByNew(t *testing.T) {
	for name, call := range map[string]func(h *Heap) bool{
		"Alloc":    func(h *Heap) bool { id, e := h.Alloc(0, 1, 5, true); return id == 1 && e == api.OK },
		"Manual":   func(h *Heap) bool { id, e := h.Manual(600, 8); return id == 1 && e == api.OK },
		"wrong":    func(h *Heap) bool { id, e := h.Manual(600, 1); return id == 0 && e == api.ErrArg },
		"Free":     func(h *Heap) bool { return h.Free(1) == api.ErrNone },
		"Span":     func(h *Heap) bool { s, e := h.Span(1); return s == nil && e == api.ErrNone },
		"Of":       func(h *Heap) bool { return h.Of(512*pageBytes) == 0 },
		"Spans":    func(h *Heap) bool { return len(h.Spans()) == 0 },
		"Flush":    func(h *Heap) bool { h.Flush(0); return true },
		"Scavenge": func(h *Heap) bool { return h.Scavenge(5) == 0 },
		"Owner":    func(h *Heap) bool { what, who := h.Owner(512); return what == 0 && who == 0 },
		"Mem":      func(h *Heap) bool { return h.Mem() != nil && h.Mem() == h.Mem() },
		"Pages":    func(h *Heap) bool { a, b, c := h.Pages(); return a+b+c == 0 },
	} {
		var h Heap
		if !call(&h) {
			t.Error(name)
		}
		h = Heap{}
		call(&h)
		if id, e := h.Alloc(3, 2, 0, false); id == 0 || e != api.OK || h.Of(h.spans[id].Info().Base) != id {
			t.Error("Alloc behind ", name, id, e)
		}
	}
}

// R1: whoever works on the address space beside the heap does not stop it.
func TestOthersInTheSpace(t *testing.T) {
	h := New(vmem.New(api.Answers{Refuse: []bool{false, false, false, false, true, false, true, false, true}}))
	m := h.Mem()
	m.Reserve(0, 512)
	a, e := h.Alloc(0, 20, 0, false)
	if s, _ := h.Span(a); e != api.OK || s.Info().Base != 1024*pageBytes {
		t.Error("a place that is another one's: ", e)
	}
	m.Release(1024, 20)
	m.Commit(1100, 3)
	m.Commit(1050, 100)
	for range 4 {
		h.Alloc(0, 5, 0, false)
		h.Alloc(-1, 200, 0, false)
	}
	h.Free(a)
	if n := h.Scavenge(greatest); n > 512 {
		t.Error("Scavenge: ", n)
	}
	for at := range uint64(2048) {
		what, who := h.Owner(at)
		if id := h.Of(at * pageBytes); what == 3 && id != who || what != 3 && id != 0 {
			t.Errorf("page %d: %d, %d, Of %d", at, what, who, id)
		}
	}
}
