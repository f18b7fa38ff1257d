package radix

import (
	"fmt"
	"math"
	"slices"
)

// lengths are the edges of how many pages may be asked for.
func lengths() []uint64 {
	return []uint64{0, 1, 2, 511, 512, 513, 1024, 4096, 4608, 32768, 33280, 262144, 1 << 27, 1<<27 + 1, allPages - 1, allPages, allPages + 1, 1 << 63, math.MaxUint64 - 511, math.MaxUint64}
}

// mosts are the edges of how many pages may be scavenged.
func mosts() []uint64 {
	return []uint64{0, 1, 2, 511, 512, 513, 1 << 32, 1<<63 + 1, math.MaxUint64}
}

// shape is a tree with a name to tell it by.
type shape struct {
	name  string
	pages *model
}

// run is n chunks from one on.
type run struct{ chunk, n uint64 }

func (x run) first() uint64 { return 512 * x.chunk }
func (x run) end() uint64   { return 512 * (x.chunk + x.n) }

func modelOf(p page, runs ...run) *model {
	m := newModel()
	for _, x := range runs {
		m.set(x.first(), x.end(), p)
	}
	return m
}

// layouts are chunks in use: none, one, beside one another and apart, at the
// lowest and the highest place there is, across where rows of each depth meet,
// and all there are.
func layouts() [][]run {
	return [][]run{
		{{0, 1}}, {{1, 1}}, {{1<<26 - 1, 1}},
		{{1, 2}}, {{7, 1}, {9, 1}}, {{0, 3}, {1<<26 - 2, 2}},
		{{6, 4}, {11, 9}}, {{3, 70}}, {{60, 66}, {127, 2}, {500, 30}},
		{{505, 1030}}, {{4090, 10}}, {{1<<18 - 2, 5}}, {{1<<26 - 600, 600}},
		{{5, 1 << 18}}, {{1<<18 - 1, 1 << 18}, {1 << 25, 1 << 18}}, {{0, 1 << 26}},
	}
}

// shapes are trees of many kinds: without chunks, all alike, all but one page or
// one chunk, by turns, and by chance.
func shapes() []shape {
	all := []shape{{"empty", newModel()}}
	for _, runs := range layouts() {
		for _, p := range kinds() {
			all = append(all, shape{fmt.Sprint(runs, " all ", p), modelOf(p, runs...)})
			for _, q := range kinds() {
				if p != q {
					all = append(all, shapesOfTwo(p, q, runs)...)
				}
			}
		}
	}
	return append(all, turns(isUsed, isIdle), turns(isUsed, isReleased), turns(isIdle, isReleased), byChance(9), byChance(99), byChance(999))
}

// kinds are all that a page of a chunk in use may be.
func kinds() []page {
	return []page{isUsed, isIdle, isReleased}
}

// shapesOfTwo are all of one kind, but a page, or a row of them, of another.
func shapesOfTwo(p, q page, runs []run) []shape {
	var all []shape
	first, end := runs[0].first(), runs[0].end()
	middle := (first + end) / 2
	for _, x := range [][2]uint64{{first, 1}, {middle - 1, 2}, {end - 1, 1}, {first + 500, min(end-first-501, 1000)}} {
		m := modelOf(p, runs...)
		m.set(x[0], x[0]+x[1], q)
		all = append(all, shape{fmt.Sprint(runs, " all ", p, " but ", x, q), m})
	}
	return all
}

// turns is every second page of one kind, in two chunks of which a gap stands
// ahead.
func turns(p, q page) shape {
	m := modelOf(p, run{5, 1}, run{7, 2})
	for at := uint64(7 * 512); at < 9*512; at += 2 {
		m.set(at, at+1, q)
	}
	return shape{fmt.Sprint("by turns ", p, q), m}
}

// byChance is rows of all lengths.
func byChance(seed uint64) shape {
	next := chance(seed)
	m := modelOf(isReleased, run{14, 4}, run{20, 13}, run{60, 10})
	for range 60 {
		at := 512*14 + next(512*56)
		for _, s := range m.part(at, at+1+next(next(3000)+1)) {
			if s.in {
				m.set(s.first, s.end, kinds()[next(3)])
			}
		}
	}
	return shape{fmt.Sprint("by chance ", seed), m}
}

// places are pages at the begin and at the end of stretches, and of the chunks
// and rows beside them, and those that are none.
func places(m *model) []uint64 {
	all := []uint64{0, 511, 512, allPages - 1, allPages, allPages + 1, 1 << 63, math.MaxUint64 - 511, math.MaxUint64}
	list := *m
	if len(list) > 6 {
		list = append(list[:3:3], list[len(list)-3:]...)
	}
	for _, s := range list {
		all = append(all, s.first-1, s.first, s.first+1, s.first+512, s.end-1, s.end, s.end-512, s.end-513, s.first/2+s.end/2)
	}
	slices.Sort(all)
	return slices.Compact(all)
}

// chance answers numbers from 0 to below n that look like chance, the same ones
// in each run.
func chance(state uint64) func(n uint64) uint64 {
	return func(n uint64) uint64 {
		state = state*6364136223846793005 + 1442695040888963407
		high := state >> 32
		state = state*6364136223846793005 + 1442695040888963407
		return (high<<32 | state>>32) % n
	}
}
