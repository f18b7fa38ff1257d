// Package num: rounding, powers, division by multiplication: see DOC.md, chapter 1.
package num

import (
	"math"
	"math/bits"
)

// Up is the least multiple of a that is not below n.
func Up(n, a uint64) (uint64, bool) {
	if a == 0 {
		return 0, false
	}
	over := n % a
	if over == 0 {
		return n, true
	}
	lack := a - over
	// Asked ahead of the sum, so that the sum cannot wrap round.
	if lack > math.MaxUint64-n {
		return 0, false
	}
	return n + lack, true
}

// Down is the greatest multiple of a that is not above n.
func Down(n, a uint64) (uint64, bool) {
	if a == 0 {
		return 0, false
	}
	return n - n%a, true
}

// Ceil is a quotient rounded up.
func Ceil(n, d uint64) (uint64, bool) {
	if d == 0 {
		return 0, false
	}
	quot := n / d
	// With a remainder d is at least 2, so that 1 more still fits.
	if n%d != 0 {
		quot++
	}
	return quot, true
}

// Pow tells whether a number is a power of two.
func Pow(n uint64) bool {
	return bits.OnesCount64(n) == 1
}

// Log is how often a number can be halved until 1 is left; -1 of 0.
func Log(n uint64) int {
	return bits.Len64(n) - 1
}

// Magic is what to multiply by in the place of dividing by d.
func Magic(d uint32) uint32 {
	// The factor for 1 would be 2^32, which does not fit.
	if d <= 1 {
		return 0
	}
	return math.MaxUint32/d + 1
}

// Quot is the quotient of x by the number that magic was made of.
func Quot(x, magic uint32) uint32 {
	return uint32(uint64(x) * uint64(magic) >> 32)
}
