package masks

import (
	"fmt"
	"math"
	"math/big"
	"slices"
	"testing"

	"mallow/api"
)

const (
	allWords  = 1 << 45
	mostWords = 1 << 37 // of one block
)

// put is a block as it was written: its words, and the things that stand there.
type put struct {
	first, end uint64
	mask       []bool
	n          uint64
}

func (p put) is(word uint64) bool {
	many := uint64(len(p.mask))
	return p.n > 0 && (word-p.first)/many < p.n && p.mask[(word-p.first)%many]
}

// ahead is how many pointers there are from the block's first word on, ahead of one.
func (p put) ahead(word uint64) uint64 {
	if p.n == 0 {
		return 0
	}
	many, in := uint64(len(p.mask)), word-p.first
	full, rest := in/many, in%many
	if full >= p.n {
		full, rest = p.n, 0
	}
	return full*pointersOf(p.mask) + pointersOf(p.mask[:rest])
}

func pointersOf(mask []bool) uint64 {
	n := uint64(0)
	for _, is := range mask {
		if is {
			n++
		}
	}
	return n
}

// The model is what was written, the last one last: a word is what the last block says
// that holds it. Blocks that another one behind them holds whole are left out.
type model struct{ l []put }

func (w *model) put(p put) {
	w.l = slices.DeleteFunc(w.l, func(o put) bool { return o.first >= p.first && o.end <= p.end })
	w.l = append(w.l, p)
}

// words are what is known of each word from first on, ahead of end.
func (w *model) words(first, end uint64) []bool {
	list := make([]bool, end-first)
	for _, p := range w.l {
		for word := max(first, p.first); word < min(end, p.end); word++ {
			list[word-first] = p.is(word)
		}
	}
	return list
}

// cuts are the words where blocks begin or end that lie from first on, up to end,
// which are both among them, rising.
func (w *model) cuts(first, end uint64) []uint64 {
	cuts := []uint64{first, end}
	for _, p := range w.l {
		for _, x := range []uint64{p.first, p.end} {
			if x > first && x < end {
				cuts = append(cuts, x)
			}
		}
	}
	slices.Sort(cuts)
	return slices.Compact(cuts)
}

func (w *model) pointers(first, end uint64) uint64 {
	if end-first <= 4096 {
		return pointersOf(w.words(first, end))
	}
	n, cuts := uint64(0), w.cuts(first, end)
	for i := range len(cuts) - 1 {
		for k := len(w.l) - 1; k >= 0; k-- {
			if p := w.l[k]; p.first <= cuts[i] && p.end >= cuts[i+1] {
				n += p.ahead(cuts[i+1]) - p.ahead(cuts[i])
				break
			}
		}
	}
	return n
}

func num(x uint64) *big.Int { return new(big.Int).SetUint64(x) }

// wantBlock goes by plain numbers, which don't wrap round.
func wantBlock(addr, bytes uint64) api.Errno {
	end := new(big.Int).Add(num(addr), num(bytes))
	if addr%8 != 0 || bytes%8 != 0 || bytes == 0 || bytes > 1<<40 || end.Cmp(num(1<<48)) > 0 {
		return api.ErrArg
	}
	return api.OK
}

func wantWrite(addr, bytes uint64, typ api.Type, n uint64) api.Errno {
	if wantBlock(addr, bytes) != api.OK || typ.Words < 1 || typ.Words > 1<<16 || len(typ.Mask) != typ.Words {
		return api.ErrArg
	}
	all := new(big.Int).Mul(num(n), big.NewInt(int64(typ.Words)))
	if all.Cmp(num(bytes/8)) > 0 {
		return api.ErrLong
	}
	return api.OK
}

func wantRead(addr, bytes uint64) api.Errno {
	if e := wantBlock(addr, bytes); e != api.OK {
		return e
	}
	if bytes > 1<<20 {
		return api.ErrLong
	}
	return api.OK
}

// checkWrite holds Write against the model; what Mask has must stay as it was.
func checkWrite(t *testing.T, what string, m *Masks, w *model, addr, bytes uint64, typ api.Type, n uint64) api.Errno {
	t.Helper()
	was := slices.Clone(typ.Mask[:cap(typ.Mask)])
	e, want := m.Write(addr, bytes, typ, n), wantWrite(addr, bytes, typ, n)
	if e != want {
		t.Fatalf("%s: Write(%d, %d, %d words, mask of %d, %d): %d, want %d", what, addr, bytes, typ.Words, len(typ.Mask), n, e, want)
	}
	if !slices.Equal(was, typ.Mask[:cap(typ.Mask)]) {
		t.Fatalf("%s: Write(%d, %d, %d words, %d) changed the mask", what, addr, bytes, typ.Words, n)
	}
	if e == api.OK {
		w.put(put{addr / 8, (addr + bytes) / 8, slices.Clone(typ.Mask), n})
	}
	return e
}

func checkClear(t *testing.T, what string, m *Masks, w *model, addr, bytes uint64) api.Errno {
	t.Helper()
	e, want := m.Clear(addr, bytes), wantBlock(addr, bytes)
	if e != want {
		t.Fatalf("%s: Clear(%d, %d): %d, want %d", what, addr, bytes, e, want)
	}
	if e == api.OK {
		w.put(put{first: addr / 8, end: (addr + bytes) / 8})
	}
	return e
}

func checkRead(t *testing.T, what string, m *Masks, w *model, addr, bytes uint64) api.Errno {
	t.Helper()
	list, e := m.Read(addr, bytes)
	want := wantRead(addr, bytes)
	if e != want || e != api.OK && len(list) > 0 {
		t.Fatalf("%s: Read(%d, %d): %d words, %d, want %d", what, addr, bytes, len(list), e, want)
	}
	if e == api.OK {
		if words := w.words(addr/8, (addr+bytes)/8); !slices.Equal(list, words) {
			t.Fatalf("%s: Read(%d, %d): %s", what, addr, bytes, unlike(list, words))
		}
	}
	return e
}

func checkPointers(t *testing.T, what string, m *Masks, w *model, addr, bytes uint64) api.Errno {
	t.Helper()
	n, e := m.Pointers(addr, bytes)
	want, wantN := wantBlock(addr, bytes), uint64(0)
	if want == api.OK {
		wantN = w.pointers(addr/8, (addr+bytes)/8)
	}
	if n != wantN || e != want {
		t.Fatalf("%s: Pointers(%d, %d): %d, %d, want %d, %d", what, addr, bytes, n, e, wantN, want)
	}
	return e
}

func unlike(got, want []bool) string {
	if len(got) != len(want) {
		return fmt.Sprint(len(got), " words, want ", len(want))
	}
	for i := range got {
		if got[i] != want[i] {
			return fmt.Sprint("of ", len(got), " words, word ", i, " is ", got[i])
		}
	}
	return "alike"
}

// checkAll holds what is told of the whole space: the words around each place where a
// block begins or ends, and how many pointers there are between these places, from the
// first word of the space to the last one.
func checkAll(t *testing.T, what string, m *Masks, w *model) {
	t.Helper()
	cuts := w.cuts(0, allWords)
	for i, cut := range cuts {
		first, end := cut-min(cut, 70), min(cut+70, allWords)
		checkRead(t, what, m, w, 8*first, 8*(end-first))
		checkPointers(t, what, m, w, 8*first, 8*(end-first))
		if i > 0 {
			checkBetween(t, what, m, w, cuts[i-1], cut)
		}
	}
}

// checkBetween goes block by block where the words are more than one may have.
func checkBetween(t *testing.T, what string, m *Masks, w *model, first, end uint64) {
	t.Helper()
	for first < end {
		next := min(end, first+mostWords)
		checkPointers(t, what, m, w, 8*first, 8*(next-first))
		first = next
	}
}

// checkEvery holds Read and Pointers of every part of some words.
func checkEvery(t *testing.T, what string, m *Masks, w *model, first, end uint64) {
	t.Helper()
	for i := first; i < end; i++ {
		for k := i + 1; k <= end; k++ {
			checkRead(t, what, m, w, 8*i, 8*(k-i))
			checkPointers(t, what, m, w, 8*i, 8*(k-i))
		}
	}
}

// checkParts holds the parts of some words that begin and end where blocks and windows
// do, or a word beside it.
func checkParts(t *testing.T, what string, m *Masks, w *model, first, end uint64) {
	t.Helper()
	checkRead(t, what, m, w, 8*first, 8*(end-first))
	var at []uint64
	for _, cut := range append(w.cuts(first, end), windowOf((first+end)/2)) {
		at = append(at, cut-min(cut, 1), cut, cut+1)
	}
	for _, i := range at {
		for _, k := range at {
			if i < k && k <= allWords {
				checkPointers(t, what, m, w, 8*i, 8*(k-i))
			}
		}
	}
}

// typed is a type whose mask has spare room, in which all words are pointers.
func typed(mask ...bool) api.Type {
	room := append(slices.Clone(mask), true, true, true)
	return api.Type{Words: len(mask), Mask: room[:len(mask)]}
}

// of is a type of so many words, of which those are pointers that are said to be.
func of(words int, is func(i int) bool) api.Type {
	mask := make([]bool, words)
	for i := range mask {
		mask[i] = is(i)
	}
	return typed(mask...)
}

func all(int) bool    { return true }
func no(int) bool     { return false }
func some(i int) bool { return i%3 == 0 || i%7 == 2 }

// mixes are types of so many words: of pointers alone, of none, and mixed ones.
func mixes(words int) []api.Type {
	next := chance(uint64(words))
	return []api.Type{
		of(words, all), of(words, no), of(words, some),
		of(words, func(i int) bool { return i == 0 }),
		of(words, func(i int) bool { return i == words-1 }),
		of(words, func(int) bool { return next(2) == 0 }),
	}
}

func oddAddrs() []uint64 {
	return []uint64{0, 1, 4, 7, 8, 9, 16, 4088, 4096, 1 << 20, 1 << 40, 1 << 47, 1<<48 - 1<<40 - 8, 1<<48 - 1<<40, 1<<48 - 1<<40 + 8,
		1<<48 - 1<<20, 1<<48 - 16, 1<<48 - 9, 1<<48 - 8, 1<<48 - 1, 1 << 48, 1<<48 + 8, 1 << 63, math.MaxUint64 - 15, math.MaxUint64 - 7, math.MaxUint64}
}

func oddBytes() []uint64 {
	return []uint64{0, 1, 4, 7, 8, 9, 16, 4096, 1<<20 - 8, 1 << 20, 1<<20 + 1, 1<<20 + 8, 1<<40 - 8, 1<<40 - 1, 1 << 40, 1<<40 + 1, 1<<40 + 8,
		1 << 41, 1<<48 - 8, 1 << 48, 1 << 63, math.MaxUint64 - 15, math.MaxUint64 - 7, math.MaxUint64}
}

// made are masks where blocks of each form stand, at the begin of the space, at its end
// and between, and their model.
func made(t *testing.T) (*Masks, *model) {
	t.Helper()
	m, w := New(), &model{}
	for _, addr := range []uint64{0, 1<<40 - 4096, 1<<48 - 1<<20} {
		checkWrite(t, "made", m, w, addr, 1<<20, of(11, some), 11000)
		checkWrite(t, "made", m, w, addr+8, 48, typed(true, false), 2)
		checkClear(t, "made", m, w, addr+1<<19, 1<<14)
	}
	checkWrite(t, "made", m, w, 1<<41, 1<<40, of(1000, some), 1<<27)
	checkWrite(t, "made", m, w, 1<<48-8, 8, typed(true), 1)
	checkAll(t, "made", m, w)
	return m, w
}

func chance(seed uint64) func(n int) int {
	return func(n int) int {
		seed = seed*6364136223846793005 + 1442695040888963407
		return int((seed >> 24) % uint64(n))
	}
}
