package fix

import (
	"math"
	"slices"
	"testing"

	"mallow/api"
)

var _ interface {
	Take(int, int) (int, int, api.Errno)
	Blocks() int
} = &Bump{}

// 12.2: the chapter's example.
func TestBumpExample(t *testing.T) {
	b, w := madeBump(t, 64)
	for _, x := range []struct {
		size, align, block, at int
		want                   api.Errno
	}{{10, 1, 0, 0, api.OK}, {8, 8, 0, 16, api.OK}, {60, 1, 1, 0, api.OK}, {65, 1, 0, 0, api.ErrLong}} {
		e := checkPlace(t, "example", b, w, x.size, x.align)
		if e != x.want {
			t.Errorf("Take(%d, %d): %d, want %d", x.size, x.align, e, x.want)
		}
		if last := w.taken[len(w.taken)-1]; e == api.OK && last != (place{x.block, x.at, x.size}) {
			t.Errorf("Take(%d, %d): %d", x.size, x.align, last)
		}
	}
}

// 12.2: blocks at the edges, and wrong ones, beside which there is no store (R3);
// of the powers of two just those from 64 to 2^20 are right.
func TestNewBump(t *testing.T) {
	right := []int{64, 128, 256, 512, 1024, 2048, 4096, 8192, 16384, 32768, 65536, 131072, 262144, 524288, 1048576}
	tried := []int{
		math.MinInt, math.MinInt + 1, -1 << 20, -64, -1, 0, 1, 2, 3, 32, 63, 65, 96, 127, 129, 1<<20 - 1, 1<<20 + 1, 1<<20 + 64,
		1 << 21, 1<<32 + 64, math.MaxInt - 1, math.MaxInt,
	}
	for i := range 64 {
		tried = append(tried, 1<<i, -1<<i, 1<<i-1, 1<<i+1, 3<<i)
	}
	for _, block := range append(tried, right...) {
		b, e := NewBump(block)
		if !slices.Contains(right, block) {
			if b != nil || e != api.ErrArg {
				t.Errorf("NewBump(%d): %v, %d", block, b, e)
			}
			continue
		}
		if b == nil || e != api.OK || b.Blocks() != 0 {
			t.Fatalf("NewBump(%d): %v, %d", block, b, e)
		}
		w := &places{block: block}
		checkPlace(t, "one more than all", b, w, block+1, 1)
		checkPlace(t, "all of it", b, w, block, block)
		checkPlace(t, "all of it", b, w, block, 1)
	}
}

// starts are stores in many states, by the places that were taken in them: none,
// one at a block's begin, up to its middle and its end, and in a second block.
func starts(block int) [][][2]int {
	return [][][2]int{
		{},
		{{1, 1}},
		{{10, 1}, {8, 8}},
		{{block / 2, 1}},
		{{block/2 + 1, 1}},
		{{block - 1, 1}},
		{{block, block}},
		{{1, 1}, {1, block}},
		{{block, 1}, {block, 1}, {3, 1}, {5, 4}},
	}
}

// 12.2, R2: sizes and aligns at the edges, right and wrong ones together, from
// stores in many states; what a refused call left behind, a place that is taken
// then would tell.
func TestTake(t *testing.T) {
	for _, block := range []int{64, 128, 4096, 1 << 20} {
		for _, start := range starts(block) {
			started := func() (*Bump, *places) {
				b, w := madeBump(t, block)
				for _, x := range start {
					checkPlace(t, "start", b, w, x[0], x[1])
				}
				return b, w
			}
			_, w := started()
			sizes := []int{
				math.MinInt, -1 << 32, -block, -1, 0, 1, 2, block / 2, block - 1, block, block + 1, 2 * block,
				1<<32 + 1, 1 << 62, math.MaxInt - 1, math.MaxInt, w.left() - 1, w.left(), w.left() + 1,
			}
			aligns := []int{
				math.MinInt, -1 << 32, -block, -2, -1, 0, 1, 2, 3, 4, 6, block / 2, block/2 + 1, block - 1, block, block + 1, 2 * block,
				1 << 32, 1<<32 + 1, 1 << 62, math.MaxInt,
			}
			for _, size := range sizes {
				for _, align := range aligns {
					b, w := started()
					checkPlace(t, "edges", b, w, size, align)
					checkPlace(t, "behind", b, w, 1, 1)
				}
			}
		}
	}
}

// 12.2, R2: ErrArg stands ahead of ErrLong.
func TestBothErrors(t *testing.T) {
	for _, x := range []struct {
		size, align int
		want        api.Errno
	}{
		{65, 3, api.ErrArg}, {65, 0, api.ErrArg}, {65, -1, api.ErrArg}, {65, 128, api.ErrArg}, {math.MaxInt, math.MinInt, api.ErrArg},
		{math.MaxInt, math.MaxInt, api.ErrArg}, {0, 3, api.ErrArg}, {-1, 1, api.ErrArg}, {0, 1, api.ErrArg}, {1, 3, api.ErrArg},
		{65, 1, api.ErrLong}, {65, 64, api.ErrLong}, {math.MaxInt, 64, api.ErrLong}, {64, 64, api.OK},
	} {
		b, w := madeBump(t, 64)
		if e := checkPlace(t, "both", b, w, x.size, x.align); e != x.want {
			t.Errorf("Take(%d, %d): %d, want %d", x.size, x.align, e, x.want)
		}
	}
}

// 12.2, 12.3: places behind one another whose aligns go up, down, and both.
func TestAligns(t *testing.T) {
	for _, block := range []int{64, 256, 1 << 12} {
		var up []int
		for a := 1; a <= block; a *= 2 {
			up = append(up, a)
		}
		down := slices.Clone(up)
		slices.Reverse(down)
		mixed := slices.Concat(up, down)
		next := chance(uint64(block))
		for i := range mixed {
			k := next(i + 1)
			mixed[i], mixed[k] = mixed[k], mixed[i]
		}
		for _, aligns := range [][]int{up, down, mixed, slices.Concat(up, down, mixed)} {
			for _, size := range []int{1, 2, 3, 7, 8, 31, 33, 63, 64, block / 2, block - 1, block} {
				b, w := madeBump(t, block)
				for range 3 {
					for _, align := range aligns {
						checkPlace(t, "aligns", b, w, size, align)
					}
				}
			}
		}
	}
}

// 12.2: a place that ends just at its block's end, and the next one, with every
// align: it begins a new block; one that is refused between them turns nothing.
func TestBlockEnd(t *testing.T) {
	for first := 1; first <= 64; first++ {
		for align := 1; align <= 64; align *= 2 {
			b, w := madeBump(t, 64)
			checkPlace(t, "first", b, w, first, 1)
			if first < 64 {
				checkPlace(t, "rest", b, w, 64-first, 1)
			}
			if b.Blocks() != 1 || w.left() != 0 {
				t.Fatalf("%d and the rest: Blocks: %d", first, b.Blocks())
			}
			for _, x := range [][2]int{{65, align}, {0, align}, {1, align + 64}, {1, 3}, {math.MaxInt, 1}} {
				if e := checkPlace(t, "between", b, w, x[0], x[1]); e == api.OK {
					t.Fatalf("Take(%d): %d", x, e)
				}
			}
			checkPlace(t, "next", b, w, 1, align)
			if last := w.taken[len(w.taken)-1]; last != (place{1, 0, 1}) {
				t.Fatalf("next with %d: %d", align, last)
			}
		}
	}
}

// 12.2: just what is left in the last block still goes there, and one more does
// not; what is left in an earlier block is never taken.
func TestLeft(t *testing.T) {
	for first := 1; first < 64; first++ {
		for align := 1; align <= 64; align *= 2 {
			begin := (first + align - 1) / align * align
			if begin == 64 {
				continue
			}
			b, w := madeBump(t, 64)
			checkPlace(t, "first", b, w, first, 1)
			checkPlace(t, "just what is left", b, w, 64-begin, align)
			if b.Blocks() != 1 {
				t.Fatalf("%d, then %d at %d: Blocks: %d", first, 64-begin, begin, b.Blocks())
			}
			b, w = madeBump(t, 64)
			checkPlace(t, "first", b, w, first, 1)
			checkPlace(t, "one more", b, w, 65-begin, align)
			if b.Blocks() != 2 {
				t.Fatalf("%d, then %d at %d: Blocks: %d", first, 65-begin, begin, b.Blocks())
			}
			checkPlace(t, "behind", b, w, 1, 1)
			if last := w.taken[len(w.taken)-1]; last.block == 0 {
				t.Fatalf("%d, then %d: %d", first, 65-begin, last)
			}
		}
	}
}

// 12.2: bytes that are taken one by one fill block behind block.
func TestOneByOne(t *testing.T) {
	b, w := madeBump(t, 64)
	for i := range 64 * 20 {
		checkPlace(t, "one by one", b, w, 1, 1)
		if last := w.taken[i]; last != (place{i / 64, i % 64, 1}) {
			t.Fatalf("byte %d: %d", i, last)
		}
	}
}

// R4: two stores, used in turns, don't see one another.
func TestTwoBumps(t *testing.T) {
	a, wa := madeBump(t, 128)
	b, wb := madeBump(t, 128)
	next := chance(7)
	for i := range 600 {
		s, w := a, wa
		if i%3 == 1 {
			s, w = b, wb
		}
		checkPlace(t, "turns", s, w, next(50)-1, 1<<next(9))
		if a.Blocks() != wa.blocks || b.Blocks() != wb.blocks {
			t.Fatalf("Blocks: %d, %d, want %d, %d", a.Blocks(), b.Blocks(), wa.blocks, wb.blocks)
		}
	}
}

// 12.2, 12.3: long work with right and wrong inputs of all kinds.
func TestLongBumps(t *testing.T) {
	for seed := range uint64(15) {
		next := chance(seed)
		block := 64 << seed
		b, w := madeBump(t, block)
		for range 1500 {
			size := 1 + next(1<<next(7+int(seed)))
			switch next(10) {
			case 0:
				checkPlace(t, "wrong", b, w, size, next(2*block)-block/2)
			case 1:
				checkPlace(t, "wrong", b, w, next(1<<next(60))-next(1<<next(60)), 1<<next(63))
			case 2:
				checkPlace(t, "what is left", b, w, w.left()+next(3)-1, 1<<next(3))
			default:
				checkPlace(t, "work", b, w, size, 1<<next(7+int(seed)))
			}
		}
	}
}
