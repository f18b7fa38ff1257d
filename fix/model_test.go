package fix

import (
	"fmt"
	"math"
	"testing"

	"mallow/api"
)

// The model of a Fix has every give that ever was, in order, and goes back through
// them for the one that is not out; records are laid into pieces one by one.
type records struct {
	size  int
	ever  int // the greatest number that was ever out
	out   map[int]bool
	gives []int
	bytes int
	room  int // left in the last piece
}

func (r *records) take() int {
	for i := len(r.gives) - 1; i >= 0; i-- {
		if id := r.gives[i]; !r.out[id] {
			r.out[id] = true
			return id
		}
	}
	if r.room < r.size {
		r.bytes += 16384
		r.room = 16384
	}
	r.room -= r.size
	r.ever++
	r.out[r.ever] = true
	return r.ever
}

func (r *records) give(id int) api.Errno {
	if !r.out[id] {
		return api.ErrFree
	}
	delete(r.out, id)
	r.gives = append(r.gives, id)
	return api.OK
}

// madeFix is a store of records and its model.
func madeFix(t *testing.T, size int) (*Fix, *records) {
	t.Helper()
	f, e := New(size)
	if f == nil || e != api.OK {
		t.Fatalf("New(%d): %v, %d", size, f, e)
	}
	return f, &records{size: size, out: map[int]bool{}}
}

// oddIDs are numbers that no record has, or only by chance.
func oddIDs(ever int) []int {
	return []int{
		math.MinInt, math.MinInt + 1, -1 << 32, -1, 0, 1, 2, ever - 1, ever, ever + 1, ever + 2,
		1<<31 - 1, 1 << 31, 1 << 32, 1<<32 + 1, 1<<32 + ever, math.MaxInt - 1, math.MaxInt,
	}
}

// 12.1: Count and Bytes, and Live of every number that was ever out and of others.
func checkFix(t *testing.T, what string, got *Fix, want *records) {
	t.Helper()
	checkSums(t, what, got, want)
	for id := range want.ever + 3 {
		checkLive(t, what, got, want, id)
	}
	for _, id := range oddIDs(want.ever) {
		checkLive(t, what, got, want, id)
	}
}

func checkLive(t *testing.T, what string, got *Fix, want *records, id int) {
	t.Helper()
	if live := got.Live(id); live != want.out[id] {
		t.Fatalf("%s: Live(%d): %t", what, id, live)
	}
}

func checkSums(t *testing.T, what string, got *Fix, want *records) {
	t.Helper()
	if n, b := got.Count(), got.Bytes(); n != len(want.out) || b != want.bytes {
		t.Fatalf("%s: Count, Bytes: %d, %d, want %d, %d", what, n, b, len(want.out), want.bytes)
	}
}

// 12.1, 12.3: a record is given out that is not out.
func checkTake(t *testing.T, what string, got *Fix, want *records) int {
	t.Helper()
	id := got.Take()
	what = fmt.Sprintf("%s: Take %d", what, id)
	if want.out[id] {
		t.Fatalf("%s: it is out", what)
	}
	if w := want.take(); id != w {
		t.Fatalf("%s: want %d", what, w)
	}
	checkFix(t, what, got, want)
	return id
}

func checkGive(t *testing.T, what string, got *Fix, want *records, id int) api.Errno {
	t.Helper()
	what = fmt.Sprintf("%s: Give(%d)", what, id)
	e, w := got.Give(id), want.give(id)
	if e != w {
		t.Fatalf("%s: %d, want %d", what, e, w)
	}
	checkFix(t, what, got, want)
	return e
}

// The model of a Bump has every place that was given out, in order.
type places struct {
	block  int
	blocks int
	taken  []place
}

type place struct{ block, at, size int }

func (p place) meets(o place) bool {
	return p.block == o.block && p.at < o.at+o.size && o.at < p.at+p.size
}

// isPower goes through all powers there are.
func isPower(n int) bool {
	for i := range 63 {
		if n == 1<<i {
			return true
		}
	}
	return false
}

// end is that of what was taken last in the last block.
func (p *places) end() int {
	last := p.taken[len(p.taken)-1]
	return last.at + last.size
}

func (p *places) left() int {
	if p.blocks == 0 {
		return 0
	}
	return p.block - p.end()
}

func (p *places) take(size, align int) (int, int, api.Errno) {
	if size < 1 || align < 1 || align > p.block || !isPower(align) {
		return 0, 0, api.ErrArg
	}
	if size > p.block {
		return 0, 0, api.ErrLong
	}
	at := 0
	if p.blocks > 0 {
		for at = p.end(); at%align != 0; at++ {
		}
	}
	if p.blocks == 0 || at+size > p.block {
		p.blocks++
		at = 0
	}
	p.taken = append(p.taken, place{p.blocks - 1, at, size})
	return p.blocks - 1, at, api.OK
}

// madeBump is a store of blocks and its model.
func madeBump(t *testing.T, block int) (*Bump, *places) {
	t.Helper()
	b, e := NewBump(block)
	if b == nil || e != api.OK {
		t.Fatalf("NewBump(%d): %v, %d", block, b, e)
	}
	return b, &places{block: block}
}

// 12.2, 12.3: the place is the model's, lies where it must, within its block, and
// meets none that was given out.
func checkPlace(t *testing.T, what string, got *Bump, want *places, size, align int) api.Errno {
	t.Helper()
	what = fmt.Sprintf("%s: block %d: Take(%d, %d)", what, want.block, size, align)
	taken := want.taken
	block, at, e := got.Take(size, align)
	wblock, wat, w := want.take(size, align)
	if block != wblock || at != wat || e != w {
		t.Fatalf("%s: %d, %d, %d, want %d, %d, %d", what, block, at, e, wblock, wat, w)
	}
	if n := got.Blocks(); n != want.blocks {
		t.Fatalf("%s: Blocks: %d, want %d", what, n, want.blocks)
	}
	if e != api.OK {
		return e
	}
	if at < 0 || at%align != 0 || at+size > want.block || block < 0 || block >= got.Blocks() {
		t.Fatalf("%s: %d, %d is no place for it", what, block, at)
	}
	for _, p := range taken {
		if p.meets(place{block, at, size}) {
			t.Fatalf("%s: %d, %d overlaps %d", what, block, at, p)
		}
	}
	return e
}

func chance(seed uint64) func(n int) int {
	return func(n int) int {
		seed = seed*6364136223846793005 + 1442695040888963407
		return int((seed >> 24) % uint64(n))
	}
}
