package span

import "math/bits"

const wordBits = 64

// words are a bit for each slot. Slots behind the last word are clear, so that a
// span of very many slots takes only as many words as it has used.
type words []uint64

func (w words) has(i int) bool {
	return i >= 0 && i/wordBits < len(w) && w[i/wordBits]>>(i%wordBits)&1 == 1
}

func (w *words) set(i int) {
	for len(*w) <= i/wordBits {
		*w = append(*w, 0)
	}
	(*w)[i/wordBits] |= 1 << (i % wordBits)
}

// unset is of a bit that is set.
func (w words) unset(i int) {
	w[i/wordBits] &^= 1 << (i % wordBits)
}

// clearFrom is the first bit from i on that is clear; behind the last word there
// always is one.
func (w words) clearFrom(i int) int {
	for i/wordBits < len(w) {
		// Those below i are shifted out; what comes in is clear, and stands for none.
		if free := ^w[i/wordBits] >> (i % wordBits); free != 0 {
			return i + bits.TrailingZeros64(free)
		}
		i += wordBits - i%wordBits
	}
	return i
}

// less are the bits that w has and o has not, rising.
func (w words) less(o words) []int {
	var out []int
	for k, word := range w {
		if k < len(o) {
			word &^= o[k]
		}
		for ; word != 0; word &= word - 1 {
			out = append(out, k*wordBits+bits.TrailingZeros64(word))
		}
	}
	return out
}
