package vmem

import (
	"slices"
	"sort"

	"mallow/api"
)

// row is pages of one state, up to where the next row begins.
type row struct {
	first uint64
	state int
}

// rows are the states of all pages of the space: what is kept grows with how
// often the state changes from a page to the next one, not with the pages.
// No two neighbours have the same state.
type rows struct {
	list   []row
	counts [api.PageReleased + 1]uint64
}

// part is what of a row lies between two bounds.
type part struct {
	first, end uint64
	state      int
}

func anyNone(parts []part) bool {
	return slices.ContainsFunc(parts, func(p part) bool { return p.state == api.PageNone })
}

func allReady(parts []part) bool {
	return !slices.ContainsFunc(parts, func(p part) bool { return p.state != api.PageReady })
}

func newRows() rows {
	r := rows{list: []row{{0, api.PageNone}}}
	r.counts[api.PageNone] = api.PageLimit
	return r
}

// at is the place in the list of the row of a page below 2^35.
func (r *rows) at(page uint64) int {
	return sort.Search(len(r.list), func(i int) bool { return r.list[i].first > page }) - 1
}

// end is the first page behind a row.
func (r *rows) end(i int) uint64 {
	if i+1 < len(r.list) {
		return r.list[i+1].first
	}
	return api.PageLimit
}

func (r *rows) state(page uint64) int {
	if page >= api.PageLimit {
		return api.PageNone
	}
	return r.list[r.at(page)].state
}

// parts are those of the rows from first to end, which are not the same, and
// not above 2^35.
func (r *rows) parts(first, end uint64) []part {
	var out []part
	for i := r.at(first); i < len(r.list) && r.list[i].first < end; i++ {
		out = append(out, part{max(first, r.list[i].first), min(end, r.end(i)), r.list[i].state})
	}
	return out
}

// set gives the pages from first to end a state.
func (r *rows) set(first, end uint64, state int) {
	for _, p := range r.parts(first, end) {
		r.counts[p.state] -= p.end - p.first
	}
	r.counts[state] += end - first

	from, to := r.at(first), r.at(end-1)+1
	behind, rest := r.list[to-1].state, end < r.end(to-1)
	if r.list[from].first < first {
		from++ // its beginning stays as it was
	}
	var fresh []row
	if from == 0 || r.list[from-1].state != state {
		fresh = append(fresh, row{first, state})
	}
	if rest && behind != state {
		fresh = append(fresh, row{end, behind})
	}
	if !rest && to < len(r.list) && r.list[to].state == state {
		to++ // it goes on from what is set
	}
	r.list = slices.Replace(r.list, from, to, fresh...)
}

// free is the first place for pages that is not below from.
func (r *rows) free(from, pages uint64) (uint64, bool) {
	// Pages are whole chunks, so that what is rounded up is not above it either.
	if from > api.PageLimit-pages {
		return 0, false
	}
	// The chunk of page 0 is never laid out.
	from = max(chunkUp(from), api.ChunkPages)
	for i := r.at(from); i < len(r.list); i++ {
		// Whole chunks are laid out, so that a row of None begins with one.
		first := max(from, r.list[i].first)
		if r.list[i].state == api.PageNone && r.end(i)-first >= pages {
			return first, true
		}
	}
	return 0, false
}

// chunkUp is the first page of a chunk that is not below a page.
func chunkUp(page uint64) uint64 {
	return (page + api.ChunkPages - 1) / api.ChunkPages * api.ChunkPages
}
