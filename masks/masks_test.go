package masks

import (
	"fmt"
	"math"
	"slices"
	"testing"

	"mallow/api"
)

var _ interface {
	Write(addr, bytes uint64, t api.Type, n uint64) api.Errno
	Read(addr, bytes uint64) ([]bool, api.Errno)
	Clear(addr, bytes uint64) api.Errno
	Pointers(addr, bytes uint64) (uint64, api.Errno)
} = New()

// 15.2, 15.3: the chapter's example.
func TestExample(t *testing.T) {
	m, two := New(), api.Type{Words: 2, Mask: []bool{true, false}}
	if e := m.Write(4194304, 48, two, 2); e != api.OK {
		t.Error("Write: ", e)
	}
	if l, e := m.Read(4194304, 56); !slices.Equal(l, []bool{true, false, true, false, false, false, false}) || e != api.OK {
		t.Error("Read: ", l, e)
	}
	if n, e := m.Pointers(4194304, 48); n != 2 || e != api.OK {
		t.Error("Pointers: ", n, e)
	}
	if e := m.Write(4194304, 8, two, 1); e != api.ErrLong {
		t.Error("Write of more: ", e)
	}
	if e := m.Write(4194304, 1<<40, api.Type{Words: 1, Mask: []bool{true}}, 1<<37); e != api.OK {
		t.Error("Write of many: ", e)
	}
	if n, e := m.Pointers(4194304, 1<<40); n != 1<<37 || e != api.OK {
		t.Error("Pointers of many: ", n, e)
	}
}

// 15.1: at first no word is a pointer; which blocks are right for Read and Pointers.
func TestNew(t *testing.T) {
	m, w := New(), &model{}
	checkAll(t, "new", m, w)
	for _, addr := range oddAddrs() {
		for _, bytes := range oddBytes() {
			checkRead(t, "new", m, w, addr, bytes)
			checkPointers(t, "new", m, w, addr, bytes)
			checkClear(t, "new", m, w, addr, bytes)
		}
	}
	checkAll(t, "new", m, &model{})
}

// 15.1, 15.2, 15.3: which blocks are right, for all calls, of masks without anything
// and of some with all forms; a call that is refused changes nothing (R2).
func TestBlockEdges(t *testing.T) {
	for _, addr := range oddAddrs() {
		m, w := made(t)
		for _, bytes := range oddBytes() {
			what := fmt.Sprint("block ", addr, " ", bytes)
			checkWrite(t, what, m, w, addr, bytes, typed(true), 1)
			checkRead(t, what, m, w, addr, bytes)
			checkPointers(t, what, m, w, addr, bytes)
			checkAll(t, what, m, w)
			checkWrite(t, what, m, w, addr, bytes, of(9, some), bytes/72)
			checkAll(t, what, m, w)
			checkClear(t, what, m, w, addr, bytes)
			checkAll(t, what, m, w)
		}
	}
}

// 15.1: blocks that end at the end of the space, and one word behind it.
func TestSpaceEnd(t *testing.T) {
	for _, bytes := range []uint64{8, 16, 4088, 4096, 4104, 1 << 20, 1<<40 - 8, 1 << 40} {
		m, w := made(t)
		for _, off := range []uint64{0, 8} {
			addr, want := 1<<48-bytes+off, api.OK
			if off > 0 {
				want = api.ErrArg
			}
			a := checkWrite(t, "end", m, w, addr, bytes, typed(true), bytes/8)
			b := checkPointers(t, "end", m, w, addr, bytes)
			checkAll(t, "end", m, w)
			c := checkClear(t, "end", m, w, addr, bytes)
			d := checkRead(t, "end", m, w, addr, min(bytes, 1<<20))
			if a != want || b != want || c != want || (bytes <= 1<<20 && d != want) {
				t.Errorf("%d bytes at %d: %d, %d, %d, %d", bytes, addr, a, b, c, d)
			}
			checkAll(t, "end", m, w)
		}
	}
}

// 15.2: which types are right: their words, and how many words the mask has.
func TestTypeEdges(t *testing.T) {
	m, w := made(t)
	lengths := []int{0, 1, 2, 3, 63, 64, 65, 1<<16 - 1, 1 << 16, 1<<16 + 1, 1<<16 + 2}
	for _, words := range []int{math.MinInt, math.MinInt + 1, -1 << 32, -1 << 16, -2, -1, 0, 1, 2, 64, 1<<16 - 1, 1 << 16, 1<<16 + 1, 1 << 32, 1<<32 + 1, math.MaxInt - 1, math.MaxInt} {
		for _, length := range lengths {
			typ := of(length, some)
			typ.Words = words
			for _, n := range []uint64{0, 1, 2, math.MaxUint64} {
				e := checkWrite(t, "type", m, w, 1<<41+8, 1<<20, typ, n)
				right := words >= 1 && words <= 1<<16 && words == length
				if right != (e != api.ErrArg) {
					t.Errorf("%d words, mask of %d, %d of them: %d", words, length, n, e)
				}
			}
			checkAll(t, "type", m, w)
		}
		for _, typ := range []api.Type{{Words: words}, {Words: words, Mask: []bool{}}} {
			if e := checkWrite(t, "no mask", m, w, 8, 1<<20, typ, 0); e != api.ErrArg {
				t.Errorf("%d words, no mask: %d", words, e)
			}
		}
	}
	checkAll(t, "type", m, w)
}

// 15.2: as many things as a block takes, less, none, one more, and numbers whose
// product with the type's words is beyond 64 bits.
func TestThingsEdges(t *testing.T) {
	m, w := made(t)
	for _, words := range []uint64{1, 2, 3, 63, 64, 65, 512, 1000, 1<<16 - 1, 1 << 16} {
		typ := of(int(words), some)
		for _, bytes := range []uint64{8, 16, 24, 504, 512, 4096, 4104, 1 << 19, 1 << 20, 1<<40 - 8, 1 << 40} {
			most := bytes / 8 / words
			ns := []uint64{most, most + 1, most / 2, 0, 1, 2, 1 << 32, 1<<37 + 1, 1 << 48, 1<<61 + 1, 1 << 63, math.MaxUint64}
			if words > 1 {
				wrap := math.MaxUint64/words + 1 // times the words it is a small number, of 64 bits
				ns = append(ns, wrap-1, wrap, wrap+1, 2*wrap, most-min(most, 1))
			}
			for _, n := range ns {
				e := checkWrite(t, "things", m, w, 1<<41+72, bytes, typ, n)
				if (e == api.OK) != (n <= most) {
					t.Errorf("%d bytes, %d times %d words: %d", bytes, n, words, e)
				}
				checkAll(t, "things", m, w)
			}
		}
	}
}

// R2: of several errors the first is told.
func TestSeveralErrors(t *testing.T) {
	m, w := made(t)
	wrong := []api.Type{{}, {Words: -1}, {Words: 1}, {Words: 2, Mask: []bool{true}}, {Words: 1, Mask: []bool{true, true}}}
	for _, typ := range append(wrong, typed(true)) {
		for _, b := range [][2]uint64{{1, 8}, {8, 0}, {8, 7}, {8, 1<<40 + 8}, {1 << 48, 8}, {1<<48 - 8, 16}, {8, 16}} {
			for _, n := range []uint64{0, 1, 3, math.MaxUint64} {
				e := checkWrite(t, "several", m, w, b[0], b[1], typ, n)
				if arg := typ.Words != len(typ.Mask) || typ.Words < 1 || b != [2]uint64{8, 16}; arg && e != api.ErrArg || !arg && n > 2 && e != api.ErrLong {
					t.Errorf("%v, %d words, mask of %d, %d things: %d", b, typ.Words, len(typ.Mask), n, e)
				}
			}
		}
	}
	for _, b := range [][2]uint64{{1, 1 << 21}, {8, 1<<21 + 1}, {1 << 48, 1 << 21}, {1<<48 - 8, 1 << 21}, {8, 1<<40 + 8}, {0, math.MaxUint64 - 7}} {
		if e := checkRead(t, "several", m, w, b[0], b[1]); e != api.ErrArg {
			t.Errorf("Read %v: %d", b, e)
		}
	}
	checkAll(t, "several", m, w)
}

// 15.3: what Read takes at most, in whatever form the words stand, and where it begins
// within a window.
func TestReadMost(t *testing.T) {
	m, w := made(t)
	for _, addr := range []uint64{0, 8, 504, 512, 4088, 4096, 1<<40 - 1<<19, 1 << 41, 1<<41 + 2056, 1<<42 - 1<<19, 1<<48 - 1<<20} {
		for _, bytes := range []uint64{1<<20 - 8, 1 << 20, 1<<20 + 8, 1<<21 + 8, 1 << 40} {
			e := checkRead(t, "most", m, w, addr, bytes)
			if right := bytes <= 1<<20; right != (e == api.OK) {
				t.Errorf("Read(%d, %d): %d", addr, bytes, e)
			}
		}
	}
}

// 15.2, 15.3: types of one word, some and many, of pointers alone, of none and mixed, in
// blocks of all lengths, where they begin at or within a strip or a window; as many
// as go, less, one and none.
func TestTypes(t *testing.T) {
	m, w := New(), &model{}
	for _, words := range []int{1, 2, 3, 5, 63, 64, 65, 100, 511, 512, 513, 1500} {
		for _, typ := range mixes(words) {
			for _, block := range []uint64{1, 2, 63, 64, 65, 511, 512, 513, 1023, 1600, 1 << 12} {
				for _, at := range []uint64{1 << 13, 1<<13 + 1, 1<<13 + 63, 1<<13 + 511} {
					checkTypes(t, m, w, at, block, typ)
				}
			}
		}
	}
}

func checkTypes(t *testing.T, m *Masks, w *model, at, block uint64, typ api.Type) {
	t.Helper()
	most := block / uint64(typ.Words)
	for _, n := range []uint64{most, most - min(most, 1), 1, 0, most + 1} {
		what := fmt.Sprint(n, " things in ", block, " words at ", at)
		e := checkWrite(t, what, m, w, 8*at, 8*block, typ, n)
		if (e == api.OK) != (n <= most) {
			t.Fatalf("%s: %d", what, e)
		}
		checkRead(t, what, m, w, 8*(at-600), 8*(block+1200))
		checkPointers(t, what, m, w, 8*at, 8*block)
		checkPointers(t, what, m, w, 8*(at+block/3), 8*(block-block/3))
	}
}

// 15.2, 15.3, 15.4: types in great blocks.
func TestGreatTypes(t *testing.T) {
	for _, words := range []int{1, 2, 3, 64, 100, 1<<16 - 1, 1 << 16} {
		for _, typ := range mixes(words) {
			for _, at := range []uint64{0, 1<<20 + 77, allWords - mostWords} {
				m, w := New(), &model{}
				for _, block := range []uint64{1 << 17, 1 << 30, 1<<33 + 3, mostWords} {
					most := block / uint64(words)
					for _, n := range []uint64{most, most - 1, most / 3, 1, 0} {
						checkWrite(t, "great", m, w, 8*at, 8*block, typ, n)
						checkAll(t, "great", m, w)
						last := at + n*uint64(words)
						checkRead(t, "great", m, w, 8*(last-min(last, 100)), 800)
					}
				}
			}
		}
	}
}

// 15.3: parts of the greatest block that begin and end within a thing.
func TestGreatParts(t *testing.T) {
	const first = 1<<40 + 24
	for _, words := range []uint64{1, 3, 7, 64, 1000, 1<<16 - 1} {
		m, w := New(), &model{}
		n := uint64(mostWords/words) - 5
		checkWrite(t, "parts", m, w, 8*first, 1<<40, of(int(words), some), n)
		next := chance(words)
		for range 300 {
			i := first + uint64(next(mostWords))
			checkPointers(t, "parts", m, w, 8*i, 8*(1+uint64(next(int(first+mostWords-i)))))
			checkRead(t, "parts", m, w, 8*i, 8*uint64(1+next(400)))
		}
		for _, i := range []uint64{0, 1, words - 1, words, words + 1, 1000*words - 1, n*words - 1, n * words, n*words + 1} {
			for _, k := range []uint64{1, 2, words - 1, words, words + 1, 5*words + words/2, 1 << 20, n*words - 1, n * words} {
				if k > 0 && i+k <= mostWords {
					checkPointers(t, "parts", m, w, 8*(first+i), 8*k)
				}
			}
		}
	}
}

// over are words of a second block, beside those of the first from at on.
func over(at, long uint64) map[string][2]uint64 {
	return map[string][2]uint64{
		"same": {at, long}, "front": {at, long / 3}, "end": {at + long - long/3, long / 3}, "middle": {at + long/3, long / 3},
		"holds": {at - long/4, long + long/2}, "ahead": {at - long/2, long / 2}, "behind": {at + long, long / 2},
		"into front": {at - long/4, long / 2}, "out of end": {at + long - long/4, long / 2}, "first word": {at, 1}, "last word": {at + long - 1, 1},
	}
}

// kinds write a block in each of the forms.
func kinds() map[string]func(t *testing.T, m *Masks, w *model, first, long uint64) {
	return map[string]func(t *testing.T, m *Masks, w *model, first, long uint64){
		"clear": func(t *testing.T, m *Masks, w *model, first, long uint64) {
			checkClear(t, "clear", m, w, 8*first, 8*long)
		},
		"nothing": writer(of(3, no), 1), "few": writer(of(5, some), 10), "as many": writer(of(7, some), 1), "all": writer(typed(true), 1),
	}
}

// writer writes so many things as go, or a part of these.
func writer(typ api.Type, part uint64) func(t *testing.T, m *Masks, w *model, first, long uint64) {
	return func(t *testing.T, m *Masks, w *model, first, long uint64) {
		checkWrite(t, "kind", m, w, 8*first, 8*long, typ, long/uint64(typ.Words)/part)
	}
}

// 15.4: blocks written over one another, in each form over each other, then a part
// cleared: every part of all of it, in blocks within a window and across two.
func TestOverEvery(t *testing.T) {
	for a, under := range kinds() {
		for b, above := range kinds() {
			for _, at := range []uint64{1060, 1015} {
				for where, x := range over(at, 24) {
					what := fmt.Sprint(a, " at ", at, " under ", b, " ", where)
					m, w := New(), &model{}
					under(t, m, w, at, 24)
					above(t, m, w, x[0], x[1])
					checkEvery(t, what, m, w, at-14, at+38)
					checkClear(t, what, m, w, 8*(at+7), 8*9)
					checkEvery(t, what, m, w, at-4, at+28)
					checkAll(t, what, m, w)
				}
			}
		}
	}
}

// 15.4: the same of longer blocks, with all three forms.
func TestOverLong(t *testing.T) {
	for _, long := range []uint64{512, 1500, 6144, 1 << 20, 1 << 36} {
		for _, at := range []uint64{1 << 36, 1<<36 + 512, 1<<36 + 77} {
			for where, x := range over(at, long) {
				for a, under := range kinds() {
					for b, above := range kinds() {
						what := fmt.Sprint(long, " words, ", a, " at ", at, " under ", b, " ", where)
						m, w := New(), &model{}
						under(t, m, w, at, long)
						above(t, m, w, x[0], x[1])
						checkOver(t, what, m, w, at, long)
						checkClear(t, what, m, w, 8*(at+long/4), 8*(long/5))
						checkOver(t, what, m, w, at, long)
						checkShape(t, what, m)
					}
				}
			}
		}
	}
}

func checkOver(t *testing.T, what string, m *Masks, w *model, at, long uint64) {
	t.Helper()
	if long <= 1500 {
		checkParts(t, what, m, w, at-long, at+2*long)
	}
	checkAll(t, what, m, w)
}

// R2: every call that is refused leaves every word as it was.
func TestRefused(t *testing.T) {
	m, w := made(t)
	want := slices.Clone(w.l)
	for _, addr := range oddAddrs() {
		for _, bytes := range oddBytes() {
			if wantBlock(addr, bytes) != api.OK {
				checkClear(t, "refused", m, w, addr, bytes)
				checkWrite(t, "refused", m, w, addr, bytes, typed(true), 1)
				continue
			}
			checkWrite(t, "refused", m, w, addr, bytes, api.Type{Words: 2, Mask: []bool{true}}, 0)
			checkWrite(t, "refused", m, w, addr, bytes, typed(true), bytes/8+1)
			checkWrite(t, "refused", m, w, addr, bytes, of(2, all), 1<<63)
		}
	}
	if len(w.l) != len(want) {
		t.Fatal("not refused: ", w.l)
	}
	checkAll(t, "refused", m, w)
	for _, p := range w.l {
		checkRead(t, "refused", m, w, 8*p.first, min(8*(p.end-p.first), 1<<20))
	}
}

// R3: a mask that is written over behind its Write, its spare room too, does not change
// what is told; neither does a list that was answered.
func TestNotShared(t *testing.T) {
	for _, long := range []uint64{10, 300, 512, 5000, 1 << 17} {
		for _, typ := range []api.Type{of(10, some), of(10, no), of(1, all), of(9, all)} {
			m, w := New(), &model{}
			n := long / uint64(typ.Words)
			checkWrite(t, "mask", m, w, 1<<30, 8*long, typ, n)
			flip(typ.Mask[:cap(typ.Mask)])
			checkRead(t, "mask", m, w, 1<<30, 8*long)
			checkPointers(t, "mask", m, w, 1<<30, 8*long)
			one, _ := m.Read(1<<30, 8*long)
			two, _ := m.Read(1<<30, 8*long)
			was := slices.Clone(two[:cap(two)])
			flip(one[:cap(one)])
			_ = append(one, true, true)
			if !slices.Equal(two[:cap(two)], was) {
				t.Error("two lists share memory")
			}
			checkRead(t, "list", m, w, 1<<30, 8*long)
			checkPointers(t, "list", m, w, 1<<30, 8*long)
		}
	}
}

func flip(list []bool) {
	for i := range list {
		list[i] = !list[i]
	}
}

// R3: one mask, handed in several times and changed between.
func TestMaskAgain(t *testing.T) {
	m, w := New(), &model{}
	typ := of(6, some)
	for i := range uint64(40) {
		checkWrite(t, "again", m, w, 1<<20+i*20000, 20000-8*i, typ, 1+i)
		typ.Mask[i%6] = !typ.Mask[i%6]
		checkRead(t, "again", m, w, 1<<20, 40*20000)
	}
}

// R3, 7a: beside an error a list is empty and a number 0.
func TestBesideErrors(t *testing.T) {
	m := New()
	m.Write(0, 1<<40, typed(true), 1<<37)
	for _, b := range [][2]uint64{{1, 8}, {8, 0}, {0, 1 << 41}, {1 << 48, 8}, {0, 1<<20 + 8}} {
		if l, e := m.Read(b[0], b[1]); l != nil || e == api.OK {
			t.Errorf("Read %v: %d words, %d", b, len(l), e)
		}
		if n, e := m.Pointers(b[0], b[1]); e != api.OK && n != 0 {
			t.Errorf("Pointers %v: %d, %d", b, n, e)
		}
	}
}

// work is one call by chance, in some words near a window's begin, now and then a wrong one.
func work(t *testing.T, what string, m *Masks, w *model, next func(int) int) {
	t.Helper()
	const base, room = 1<<20 - 700, 3000
	i := uint64(next(room))
	long := 1 + uint64(next(int(room-i)))
	if next(2) == 0 {
		long = 1 + long%60
	}
	addr, bytes := 8*(base+i), 8*long
	typ := mixes(1 + next(1+next(300)))[next(6)]
	most := int(long) / typ.Words
	switch next(10) {
	case 0, 1:
		checkClear(t, what, m, w, addr, bytes)
	case 2:
		addrs, lengths := oddAddrs(), oddBytes()
		checkWrite(t, what, m, w, addrs[next(len(addrs))], lengths[next(len(lengths))]|1, typ, 0)
	case 3:
		checkWrite(t, what, m, w, addr, bytes, typ, uint64(most+1+next(3)))
	case 4:
		typ.Words += 1 - 2*next(2)
		checkWrite(t, what, m, w, addr, bytes, typ, 0)
	default:
		checkWrite(t, what, m, w, addr, bytes, typ, uint64(next(most+1)))
	}
	checkRead(t, what, m, w, 8*base, 8*room)
	checkPointers(t, what, m, w, 8*base, 8*room)
	checkPointers(t, what, m, w, addr, bytes)
}

// 15.1 to 15.4: long work with right and wrong inputs.
func TestLongWork(t *testing.T) {
	for seed := range uint64(6) {
		m, w, next := New(), &model{}, chance(seed)
		for range 600 {
			work(t, "work", m, w, next)
			checkShape(t, "work", m)
		}
		checkAll(t, "work", m, w)
	}
}

// R4: two masks, used in turns, don't see one another.
func TestTwoMasks(t *testing.T) {
	a, wa, b, wb := New(), &model{}, New(), &model{}
	next := chance(15)
	for i := range 400 {
		if i%2 == 0 {
			work(t, "a", a, wa, next)
		} else {
			work(t, "b", b, wb, next)
		}
		checkRead(t, "a", a, wa, 8*(1<<20-700), 24000)
		checkRead(t, "b", b, wb, 8*(1<<20-700), 24000)
	}
	checkClear(t, "a", a, wa, 0, 1<<40)
	checkAll(t, "a", a, wa)
	checkAll(t, "b", b, wb)
}

// 15.1 to 15.4: blocks of all lengths over the whole space.
func TestGreatWork(t *testing.T) {
	for seed := range uint64(4) {
		m, w, next := New(), &model{}, chance(100+seed)
		for range 250 {
			long := uint64(1) << next(38)
			long = min(mostWords, long+uint64(next(int(long))))
			first := uint64(next(int(allWords - long + 1)))
			if next(3) > 0 {
				first = windowOf(first >> 7 << next(8))
			}
			typ := mixes(1 + next(1+next(2000)))[next(6)]
			if next(4) == 0 {
				checkClear(t, "great", m, w, 8*first, 8*long)
			} else {
				checkWrite(t, "great", m, w, 8*first, 8*long, typ, long/uint64(typ.Words)/uint64(1+next(3)))
			}
			checkPointers(t, "great", m, w, 8*first, 8*long)
		}
		checkShape(t, "great", m)
		checkAll(t, "great", m, w)
	}
}
