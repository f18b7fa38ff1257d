package mheap

import (
	"math/bits"

	"mallow/api"
)

const smallPages = 16 // of so many and more no cache is asked

// row is pages, one beside the other, of which so many are released.
type row struct{ page, pages, released uint64 }

// get finds n pages for a P and makes them ready. What was got is given back, if
// the system refuses that; what the heap has grown by stays.
func (h *Heap) get(p int, n uint64) (page uint64, code api.Errno) {
	r, code := h.find(p, n)
	if code != api.OK {
		return 0, code
	}
	defer func() {
		if code != api.OK {
			page = 0
			h.giveBack(r)
		}
	}()
	return r.page, h.mem.Commit(r.page, r.pages)
}

// find takes n pages out of the cache of a P, or out of the tree, which grows if
// it must.
func (h *Heap) find(p int, n uint64) (row, api.Errno) {
	if r, ok := h.fromCache(p, n); ok {
		return r, api.OK
	}
	if r, ok := h.fromTree(n); ok {
		return r, api.OK
	}
	if e := h.grow(n); e != api.OK {
		return row{}, e
	}
	r, _ := h.fromTree(n)
	return r, api.OK
}

// fromCache takes n pages, at least one, out of the cache of a P, if it has one
// that may be asked for so many.
func (h *Heap) fromCache(p int, n uint64) (row, bool) {
	if !isP(p) || n >= smallPages {
		return row{}, false
	}
	c := h.caches[p]
	if c.Empty() {
		c.Fill(h.tree) // or it has none: then it has no n of them either
	}
	page, released, e := c.Alloc(int(n))
	return row{page, n, uint64(released)}, e == api.OK
}

// fromTree takes n pages, at least one, out of the tree.
func (h *Heap) fromTree(n uint64) (row, bool) {
	page, released, e := h.tree.Alloc(n)
	return row{page, n, released}, e == api.OK
}

// grow makes arenas that n pages go into.
func (h *Heap) grow(n uint64) api.Errno {
	chunks := (n + api.ChunkPages - 1) / api.ChunkPages
	pages := chunks * api.ChunkPages
	page, e := h.mem.Reserve(h.behind, pages)
	if e != api.OK {
		return e
	}
	first := page / api.ChunkPages
	h.tree.Grow(first, chunks)
	for i := range chunks {
		h.arenas.Add(first + i)
	}
	h.behind = page + pages
	h.grown += pages
	return api.OK
}

// giveBack gives pages back to the tree that somebody has: those that are ready
// as such, the others as released ones.
func (h *Heap) giveBack(r row) {
	for r.pages > 0 {
		n := h.alike(r)
		if h.ready(r.page) {
			h.tree.Give(r.page, n)
		} else {
			h.tree.Back(r.page, n)
			r.released -= n
		}
		r.page += n
		r.pages -= n
	}
}

// alike is how many of the first pages of a row are as ready as the very first.
func (h *Heap) alike(r row) uint64 {
	// There may be very many pages, and mostly they are all alike.
	if r.released == 0 || r.released == r.pages {
		return r.pages
	}
	n := uint64(1)
	for n < r.pages && h.ready(r.page+n) == h.ready(r.page) {
		n++
	}
	return n
}

func (h *Heap) ready(page uint64) bool {
	return h.mem.State(page) == api.PageReady
}

// cacheOf is the P in whose cache a page is, if it is in one.
func (h *Heap) cacheOf(page uint64) (int, bool) {
	for p, c := range h.caches {
		block, has, _ := c.Tell()
		// Of a page that lies behind the block, or ahead of it (where the difference
		// wraps round), nothing is left by the shift.
		if has>>(page-block)&1 == 1 {
			return p, true
		}
	}
	return 0, false
}

// releasedInCaches is how many pages in all caches are released.
func (h *Heap) releasedInCaches() uint64 {
	n := 0
	for _, c := range h.caches {
		_, _, released := c.Tell()
		n += bits.OnesCount64(released)
	}
	return uint64(n)
}

func isP(p int) bool {
	return p >= 0 && p < api.MaxPs
}
