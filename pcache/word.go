package pcache

import (
	"iter"
	"math/bits"

	"mallow/api"
	"mallow/radix"
)

const blockPages = 64 // as many as a word has bits

// ones is a word whose n bits from a place on are set; it has as many.
func ones(at, n int) uint64 {
	return ^uint64(0) >> (blockPages - n) << at
}

// find is the first place of a word at which n bits in a row are set.
func find(word uint64, n int) (int, bool) {
	for n > 1 {
		// All bits of a row are set where its first ones are, and as many of its
		// last ones, which begin half of the row further on: half of it is never
		// more than the rest, so that both together are the whole.
		half := n / 2
		word &= word >> half
		n -= half
	}
	return bits.TrailingZeros64(word), word != 0
}

// rows goes through the rows of set bits of a word, each as long as it goes:
// where each begins, and how long it is.
func rows(word uint64) iter.Seq2[uint64, uint64] {
	return func(yield func(at, n uint64) bool) {
		for left := word; left != 0; {
			at := bits.TrailingZeros64(left)
			n := bits.TrailingZeros64(^(left >> at))
			if !yield(uint64(at), uint64(n)) {
				return
			}
			left &^= ones(at, n)
		}
	}
}

// free tells which pages of a block are free in a tree, and which of these are
// released.
func free(t *radix.Tree, block uint64) (uint64, uint64) {
	var has, released uint64
	for at := range blockPages {
		_, isFree, isReleased := t.State(block + uint64(at))
		if isFree {
			has |= ones(at, 1)
		}
		if isReleased {
			released |= ones(at, 1)
		}
	}
	return has, released
}

// giveAll gives those pages of a block back of which a word has the bits.
func giveAll(give func(page, n uint64) api.Errno, block, word uint64) {
	for at, n := range rows(word) {
		giveRow(give, block+at, n)
	}
}

// giveRow gives the n pages from one on back.
func giveRow(give func(page, n uint64) api.Errno, page, n uint64) {
	// A tree that somebody else has given one of them takes the others yet.
	if give(page, n) == api.OK || n == 1 {
		return
	}
	half := n / 2
	giveRow(give, page, half)
	giveRow(give, page+half, n-half)
}
