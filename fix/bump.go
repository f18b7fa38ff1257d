package fix

import (
	"mallow/api"
	"mallow/num"
)

// The least and the greatest block of a Bump.
const (
	minBlock = 64
	maxBlock = 1 << 20
)

// Bump gives bytes out of blocks. As none comes back, the end of what was taken
// last is all that has to be known of them.
type Bump struct {
	block  int // bytes of each
	blocks int
	end    int // of what was taken last, in the last block
}

// NewBump has blocks of so many bytes.
func NewBump(block int) (*Bump, api.Errno) {
	if !powerWithin(block, minBlock, maxBlock) {
		return nil, api.ErrArg
	}
	return &Bump{block: block}, api.OK
}

// Take tells the block and the place in it where size bytes are the caller's.
func (b *Bump) Take(size, align int) (int, int, api.Errno) {
	if size < 1 || !powerWithin(align, 1, b.block) {
		return 0, 0, api.ErrArg
	}
	if size > b.block {
		return 0, 0, api.ErrLong
	}
	at, ok := b.fit(size, align)
	if !ok {
		b.blocks++
		at = 0
	}
	b.end = at + size
	return b.blocks - 1, at, api.OK
}

// Blocks is how many blocks there are.
func (b *Bump) Blocks() int {
	return b.blocks
}

// fit is where size bytes fit into the last block, if there is one. As align
// divides the block, the place is never above the block's end.
func (b *Bump) fit(size, align int) (int, bool) {
	if b.blocks == 0 {
		return 0, false
	}
	at, _ := num.Up(uint64(b.end), uint64(align))
	return int(at), size <= b.block-int(at)
}

// powerWithin tells whether n is a power of two from low to high. The bounds are
// asked first: as a number without a sign, the least number is a power of two.
func powerWithin(n, low, high int) bool {
	return low <= n && n <= high && num.Pow(uint64(n))
}
