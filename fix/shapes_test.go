package fix

import (
	"math"
	"testing"

	"mallow/api"
)

// long is how many records the list of those given back has; it ends the test if
// one is there twice, as one in a ring is.
func long(t *testing.T, f *Fix) int {
	t.Helper()
	seen := map[int]int{}
	for g := f.last; g != nil; g = g.before {
		if seen[g.id]++; seen[g.id] > 1 {
			t.Fatalf("%d is in the list twice", g.id)
		}
	}
	return len(seen)
}

// R6: what is kept is the records that were ever out, and of those that are not
// out the list: whatever number is handed in, and however often records come and go.
func TestKept(t *testing.T) {
	for _, size := range []int{1, 6000, 16384} {
		f, w := madeFix(t, size)
		next := chance(uint64(size))
		for range 2000 {
			switch next(3) {
			case 0:
				f.Give(math.MaxInt - next(1<<40))
				f.Live(next(1 << 40))
			case 1:
				id := 1 + next(20)
				f.Give(id)
				w.give(id)
			default:
				if f.Count() < 20 {
					f.Take()
					w.take()
				}
			}
			if n := long(t, f); len(f.out) != w.ever || n != w.ever-len(w.out) {
				t.Fatalf("%d records and a list of %d, want %d and %d", len(f.out), n, w.ever, w.ever-len(w.out))
			}
		}
	}
}

// R6: neither a block's bytes nor those that are taken are kept anywhere.
func TestBumpKeepsNothing(t *testing.T) {
	for _, block := range []int{64, 1 << 20} {
		b, e := NewBump(block)
		if e != api.OK {
			t.Fatal("NewBump: ", e)
		}
		if n := testing.AllocsPerRun(1000, func() {
			b.Take(block, block)
			b.Take(1, 1)
			b.Take(math.MaxInt, 1)
			b.Take(1, math.MaxInt)
		}); n != 0 {
			t.Errorf("block %d: %v allocations a turn", block, n)
		}
		if b.Blocks() < 2000 {
			t.Errorf("block %d: Blocks: %d", block, b.Blocks())
		}
	}
}

// R1: stores that nobody made have no records and no blocks that fit, but their
// calls end as all others do.
func TestZeroStores(t *testing.T) {
	f, b := &Fix{}, &Bump{}
	for _, n := range []int{math.MinInt, -1, 0, 1, 2, math.MaxInt} {
		f.Give(n)
		f.Live(n)
		f.Bytes()
		f.Take()
		f.Bytes()
		for _, align := range []int{math.MinInt, -1, 0, 1, 64, math.MaxInt} {
			if block, at, e := b.Take(n, align); block != 0 || at != 0 || e != api.ErrArg || b.Blocks() != 0 {
				t.Errorf("Take(%d, %d): %d, %d, %d", n, align, block, at, e)
			}
		}
	}
}
