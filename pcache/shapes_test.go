package pcache

import "fmt"

// block is what its 64 pages are.
type block [64]kind

// blocks are of many kinds, by names: each has a free page.
func blocks() map[string]block {
	all := map[string]block{
		"idle":         blockOf(func(i int) kind { return idle }),
		"back":         blockOf(func(i int) kind { return back }),
		"halves":       blockOf(func(i int) kind { return pick(i < 32, idle, back) }),
		"other halves": blockOf(func(i int) kind { return pick(i < 32, back, idle) }),
		"by turns":     blockOf(func(i int) kind { return pick(i%2 == 0, idle, back) }),
	}
	for _, k := range []kind{idle, back} {
		for _, at := range []int{0, 1, 31, 32, 62, 63} {
			all[fmt.Sprint("one of ", k, " at ", at)] = blockOf(func(i int) kind { return pick(i == at, k, used) })
			all[fmt.Sprint("one of ", k, " and others at ", at)] = blockOf(func(i int) kind { return pick(i == at, k, idle+back-k) })
			all[fmt.Sprint("all but ", at, " of ", k)] = blockOf(func(i int) kind { return pick(i == at, used, k) })
		}
		all[fmt.Sprint("even ones of ", k)] = blockOf(func(i int) kind { return pick(i%2 == 0, k, used) })
		all[fmt.Sprint("odd ones of ", k)] = blockOf(func(i int) kind { return pick(i%2 == 1, k, used) })
		all[fmt.Sprint("begin and end of ", k)] = blockOf(func(i int) kind { return pick(i < 8 || i > 50, k, used) })
	}
	for seed := range uint64(8) {
		next := chance(seed)
		b := blockOf(func(i int) kind { return []kind{used, idle, back}[next(3)] })
		b[next(64)] = idle
		all[fmt.Sprint("by chance ", seed)] = b
	}
	return all
}

func blockOf(is func(i int) kind) block {
	var b block
	for i := range b {
		b[i] = is(i)
	}
	return b
}

func pick(first bool, a, b kind) kind {
	if first {
		return a
	}
	return b
}

// lay puts a block into the chunk in which it lies: all pages ahead of it are
// used, those behind it are of a kind.
func (m *model) lay(first uint64, b block, behind kind) {
	chunk := first / 512 * 512
	m.set(chunk, first, used)
	m.set(first, chunk+512, behind)
	for i, k := range b {
		m.pages[first+uint64(i)] = k
	}
}

// places are first pages of blocks: the lowest and the highest one that there
// are, others at the begin and at the end of a chunk, and within one.
func places() []uint64 {
	return []uint64{0, 64, 448, 512, 960, 2560 + 192, allPages/2 - 64, allPages / 2, allPages - 512, allPages - 64}
}

// chance makes numbers below one that look like chance, the same ones each time.
func chance(seed uint64) func(n uint64) uint64 {
	return func(n uint64) uint64 {
		seed = seed*6364136223846793005 + 1442695040888963407
		return seed >> 33 % n
	}
}
