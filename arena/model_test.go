package arena

import (
	"fmt"
	"maps"
	"math"
	"slices"
	"testing"

	"mallow/api"
)

const (
	pageBytes  = 8192
	arenaPages = 512
	arenaBytes = pageBytes * arenaPages
	allChunks  = 1 << 26
	allPages   = 1 << 35
	allBytes   = 1 << 48
)

// The model has each page of each arena by its number, with whose it is.
type model map[uint64]int

func (m model) add(chunk uint64) api.Errno {
	if chunk >= allChunks {
		return api.ErrArg
	}
	if _, ok := m[chunk*arenaPages]; ok {
		return api.ErrTwice
	}
	for i := range uint64(arenaPages) {
		m[chunk*arenaPages+i] = 0
	}
	return api.OK
}

// The first page that lies in no arena ends the loop, so that it ends for every n.
func (m model) set(page, n uint64, id int) api.Errno {
	if n == 0 || id < 0 {
		return api.ErrArg
	}
	for i := range n {
		if _, ok := m[page+i]; !ok {
			return api.ErrAddr
		}
	}
	for i := range n {
		m[page+i] = id
	}
	return api.OK
}

func (m model) chunks() []uint64 {
	var l []uint64
	for p := range m {
		if p%arenaPages == 0 {
			l = append(l, p/arenaPages)
		}
	}
	slices.Sort(l)
	return l
}

// edges are addresses that lie in no arena, or only by chance, or at an end of all.
func edges(m model) []uint64 {
	l := []uint64{
		0, 1, pageBytes - 1, pageBytes, arenaBytes - 1, arenaBytes, 1 << 31, 1 << 32, 1 << 35,
		allBytes - arenaBytes - 1, allBytes - arenaBytes, allBytes - 1, allBytes, allBytes + 1,
		allBytes + arenaBytes, 1 << 61, 1<<63 - 1, 1 << 63, 1<<63 + arenaBytes, math.MaxUint64 - 1, math.MaxUint64,
	}
	for _, c := range m.chunks() {
		begin := c * arenaBytes
		l = append(l, begin-1, begin-arenaBytes, begin+arenaBytes, begin+2*arenaBytes-1)
		for _, bit := range []int{48, 49, 61, 62, 63} {
			l = append(l, begin|1<<bit, begin+arenaBytes-1|1<<bit)
		}
	}
	return l
}

// 11.1 to 11.3: what is told of every page, at its begin, in its middle and at its
// end; of addresses beside the arenas; and of the arenas.
func check(t *testing.T, what string, got *Map, want model) {
	t.Helper()
	ask := func(addr uint64) {
		id, has := want[addr/pageBytes]
		if a, h := got.At(addr), got.Has(addr); a != id || h != has {
			t.Fatalf("%s: At, Has(%d) (page %d): %d, %t, want %d, %t", what, addr, addr/pageBytes, a, h, id, has)
		}
	}
	for p := range want {
		for _, at := range []uint64{0, 4096 + p%7, pageBytes - 1} {
			ask(p*pageBytes + at)
		}
	}
	for _, addr := range edges(want) {
		ask(addr)
	}
	if l := slices.Collect(got.Chunks()); !slices.Equal(l, want.chunks()) {
		t.Fatalf("%s: Chunks: %d, want %d", what, l, want.chunks())
	}
}

func checkAdd(t *testing.T, what string, got *Map, want model, chunk uint64) api.Errno {
	t.Helper()
	what = fmt.Sprintf("%s: Add(%d)", what, chunk)
	e, w := got.Add(chunk), want.add(chunk)
	if e != w {
		t.Fatalf("%s: %d, want %d", what, e, w)
	}
	check(t, what, got, want)
	return e
}

func checkSet(t *testing.T, what string, got *Map, want model, page, n uint64, id int) api.Errno {
	t.Helper()
	what = fmt.Sprintf("%s: Set(%d, %d, %d)", what, page, n, id)
	e, w := got.Set(page, n, id), want.set(page, n, id)
	if e != w {
		t.Fatalf("%s: %d, want %d", what, e, w)
	}
	check(t, what, got, want)
	return e
}

// made is a map of arenas, added in that order, and its model.
func made(chunks ...uint64) (*Map, model) {
	m, w := New(), model{}
	for _, c := range chunks {
		m.Add(c)
		w.add(c)
	}
	return m, w
}

// spotted is a map of arenas all of whose pages have owners of many kinds.
func spotted(chunks ...uint64) (*Map, model) {
	m, w := made(chunks...)
	for _, p := range slices.Sorted(maps.Keys(w)) {
		id := int(p%5) * int(1+p/arenaPages%3)
		m.Set(p, 1, id)
		w.set(p, 1, id)
	}
	return m, w
}

func chance(seed uint64) func(n uint64) uint64 {
	return func(n uint64) uint64 {
		seed = seed*6364136223846793005 + 1442695040888963407
		return (seed >> 24) % n
	}
}
