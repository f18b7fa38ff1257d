package vmem

import "mallow/api"

const (
	wordBytes = 8
	pageWords = api.PageSize / wordBytes
)

// words are what stands in the pages that are ready. A page has an array from
// the first store on; until then all its words are the same, and only fills
// other than 0 are kept: what is kept does not grow with the length of a row.
type words struct {
	pages map[uint64]*[pageWords]uint64
	fills map[uint64]uint64
}

func newWords() words {
	return words{pages: map[uint64]*[pageWords]uint64{}, fills: map[uint64]uint64{}}
}

// split is the page of an address, and the number of its word there.
func split(addr uint64) (page, word uint64) {
	return addr / api.PageSize, addr % api.PageSize / wordBytes
}

// fill sets all words of a page that has none yet.
func (w *words) fill(page, x uint64) {
	if x != 0 {
		w.fills[page] = x
	}
}

func (w *words) load(addr uint64) uint64 {
	page, word := split(addr)
	if a := w.pages[page]; a != nil {
		return a[word]
	}
	return w.fills[page]
}

func (w *words) store(addr, x uint64) {
	page, word := split(addr)
	w.array(page)[word] = x
}

// array is the array of a page, which is made if there is none.
func (w *words) array(page uint64) *[pageWords]uint64 {
	if a := w.pages[page]; a != nil {
		return a
	}
	a := new([pageWords]uint64)
	if x := w.fills[page]; x != 0 {
		for i := range a {
			a[i] = x
		}
		delete(w.fills, page)
	}
	w.pages[page] = a
	return a
}

// zero sets the words of some bytes to 0.
func (w *words) zero(addr, bytes uint64) {
	page, from := split(addr)
	last, to := split(addr + bytes)
	if page == last {
		w.zeroPart(page, from, to)
		return
	}
	if from != 0 {
		w.zeroPart(page, from, pageWords)
		page++
	}
	w.forget(page, last)
	w.zeroPart(last, 0, to)
}

// zeroPart sets some words of one page to 0.
func (w *words) zeroPart(page, from, to uint64) {
	if from == to || w.pages[page] == nil && w.fills[page] == 0 {
		return
	}
	clear(w.array(page)[from:to])
}

// forget sets all words of the pages from first to end to 0.
func (w *words) forget(first, end uint64) {
	drop(w.pages, first, end)
	drop(w.fills, first, end)
}

// drop takes the keys from first to end out of a map.
func drop[V any](kept map[uint64]V, first, end uint64) {
	// Whichever is shorter: a row may have very many pages that have no key.
	if end-first > uint64(len(kept)) {
		for page := range kept {
			if page >= first && page < end {
				delete(kept, page)
			}
		}
		return
	}
	for page := first; page < end; page++ {
		delete(kept, page)
	}
}
