package bits

import (
	"fmt"
	"testing"

	"mallow/api"
)

// The model keeps each bit as a bool of its own, and goes by chapter 6 bit by
// bit: it knows nothing of words but in its method row.
type model [512]bool

func (m *model) fill(i, n int, set bool) {
	for k := i; k < i+n; k++ {
		m[k] = set
	}
}

// row lays the bits into words by 6.1.
func (m *model) row() Row {
	var r Row
	for i, set := range m {
		if set {
			r[i/64] |= uint64(1) << (i % 64)
		}
	}
	return r
}

func (m *model) count(i, n int) int {
	count := 0
	for _, set := range m[i : i+n] {
		if set {
			count++
		}
	}
	return count
}

// ahead tells of each bit how many are clear from it on.
func (m *model) ahead() [513]int {
	var long [513]int
	for i := 511; i >= 0; i-- {
		if !m[i] {
			long[i] = long[i+1] + 1
		}
	}
	return long
}

// behind tells of each bit how many are clear right ahead of it.
func (m *model) behind() [513]int {
	var long [513]int
	for i, set := range m {
		if !set {
			long[i+1] = long[i] + 1
		}
	}
	return long
}

func (m *model) sum() api.Sum {
	ahead, behind := m.ahead(), m.behind()
	sum := api.Sum{Start: ahead[0], End: behind[512]}
	for _, long := range ahead {
		sum.Max = max(sum.Max, long)
	}
	return sum
}

// shape is a row with a name to tell it by.
type shape struct {
	name string
	bits model
}

func shapeOf(name string, set func(i int) bool) shape {
	s := shape{name: name}
	for i := range s.bits {
		s.bits[i] = set(i)
	}
	return s
}

// chance answers numbers from 0 to below n that look like chance, the same ones
// in each run.
func chance(state uint64) func(n int) int {
	return func(n int) int {
		state = state*6364136223846793005 + 1442695040888963407
		return int(state>>33) % n
	}
}

// spans are right ones: within a word, up to its end, across it, across whole
// words, up to the last bit, and empty ones.
func spans() [][2]int {
	return [][2]int{
		{0, 0}, {0, 1}, {0, 63}, {0, 64}, {0, 65}, {0, 511}, {0, 512}, {1, 511}, {5, 20}, {62, 1}, {62, 2}, {62, 3}, {63, 1}, {63, 2}, {63, 66},
		{64, 0}, {64, 1}, {64, 63}, {64, 64}, {64, 65}, {65, 63}, {70, 300}, {127, 258}, {128, 256}, {190, 4}, {447, 65}, {448, 63}, {448, 64}, {449, 63}, {510, 2}, {511, 1}, {512, 0},
	}
}

// shapes are rows of many kinds: all alike, by turns, one piece that is unlike
// the rest, whole words, and by chance.
func shapes() []shape {
	all := []shape{
		shapeOf("all clear", func(i int) bool { return false }),
		shapeOf("all set", func(i int) bool { return true }),
		shapeOf("each second from 0", func(i int) bool { return i%2 == 0 }),
		shapeOf("each second from 1", func(i int) bool { return i%2 == 1 }),
		shapeOf("each second word", func(i int) bool { return i/64%2 == 1 }),
		shapeOf("the lowest of each word", func(i int) bool { return i%64 == 0 }),
		shapeOf("the highest of each word", func(i int) bool { return i%64 == 63 }),
		shapeOf("both ends of each word", func(i int) bool { return i%64 == 63 || i%64 == 0 }),
		shapeOf("all but the ends of each word", func(i int) bool { return i%64 != 63 && i%64 != 0 }),
		shapeOf("rows that grow", func(i int) bool { return i&(i+1) == 0 }),
		shapeOf("rows that shrink", func(i int) bool { return (511-i)&(512-i) == 0 }),
		shapeOf("the example", func(i int) bool { return i < 3 || i == 10 }),
	}
	for _, x := range spans() {
		in := func(i int) bool { return i >= x[0] && i < x[0]+x[1] }
		all = append(all, shapeOf(fmt.Sprint("set ", x), in), shapeOf(fmt.Sprint("clear ", x), func(i int) bool { return !in(i) }))
	}
	next := chance(6)
	for _, of := range []int{2, 8, 40, 200} {
		all = append(all, shapeOf(fmt.Sprint("one in ", of), func(i int) bool { return next(of) == 0 }), shapeOf(fmt.Sprint("all but one in ", of), func(i int) bool { return next(of) != 0 }))
	}
	return all
}

// eachShape calls with each shape and its row; no call of chapter 6 but Set and
// Clear may change it.
func eachShape(t *testing.T, call func(s shape, r *Row)) {
	t.Helper()
	for _, s := range shapes() {
		r := s.bits.row()
		call(s, &r)
		if r != s.bits.row() {
			t.Errorf("%s: became %x", s.name, r)
		}
	}
}
