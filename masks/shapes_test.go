package masks

import (
	"math"
	"testing"

	"mallow/api"
)

// Ways: three forms, behind an interface.
var (
	_ form = none{}
	_ form = &inPlace{}
	_ form = &things{}
)

// checkShape holds the tree against itself: pieces are whole windows, rise and don't
// overlap, have pointers, know how many, and no way down is longer than it must be.
func checkShape(t *testing.T, what string, m *Masks) {
	t.Helper()
	end := uint64(0)
	checkPiece(t, what, m.pieces, &end)
}

func checkPiece(t *testing.T, what string, p *piece, end *uint64) (int, uint64) {
	t.Helper()
	if p == nil {
		return 0, 0
	}
	left, ahead := checkPiece(t, what, p.left, end)
	if p.first < *end || p.first >= p.end || p.first%windowWords != 0 || p.end%windowWords != 0 {
		t.Fatalf("%s: words %d to %d behind %d", what, p.first, p.end, *end)
	}
	if _, ok := p.form.(*inPlace); ok && p.end-p.first != windowWords {
		t.Fatalf("%s: words %d to %d in place", what, p.first, p.end)
	}
	if p.own == 0 || p.own != p.form.count(p.first, p.end) {
		t.Fatalf("%s: words %d to %d: %d pointers", what, p.first, p.end, p.own)
	}
	*end = p.end
	right, behind := checkPiece(t, what, p.right, end)
	if left-right > 1 || right-left > 1 || p.height != 1+max(left, right) || p.sum != ahead+p.own+behind {
		t.Fatalf("%s: heights %d and %d below %d, %d pointers", what, left, right, p.height, p.sum)
	}
	return p.height, p.sum
}

func (p *piece) many() int {
	if p == nil {
		return 0
	}
	return p.left.many() + 1 + p.right.many()
}

func checkMany(t *testing.T, what string, m *Masks, want int) {
	t.Helper()
	checkShape(t, what, m)
	if n := m.pieces.many(); n != want {
		t.Errorf("%s: %d pieces, want %d", what, n, want)
	}
}

// Ways: what is short stands in place, what is long as a type with a count, and what
// has no pointers as none.
func TestForms(t *testing.T) {
	m := New()
	m.Write(8, 800, of(3, some), 20)
	m.Write(1<<20, 1<<30, of(3, some), 20)
	for word, want := range map[uint64]string{1: "in place", 300: "in place", 512: "none", 1 << 17: "things", 1<<27 + 1: "things", 1<<27 + 1<<17: "none", allWords - 1: "none"} {
		got := ""
		switch m.pieces.formAt(word).(type) {
		case *inPlace:
			got = "in place"
		case *things:
			got = "things"
		case none:
			got = "none"
		}
		if got != want {
			t.Errorf("word %d: %s, want %s", word, got, want)
		}
	}
}

// R6, 15.4: what is kept grows neither with how many things there are nor with how long
// the block is.
func TestKeptAtOnce(t *testing.T) {
	for _, long := range []uint64{1 << 10, 1 << 20, 1 << 30, mostWords} {
		for _, n := range []uint64{1, long / 10, long / 2, long} {
			for _, first := range []uint64{0, 512, 1<<30 + 512} {
				m := New()
				m.Write(8*first, 8*long, typed(true), n)
				checkMany(t, "at once", m, 1)
				m.Write(8*(first+1), 8*(long-2), typed(true), min(n, long-2))
				if many := m.pieces.many(); many > 3 {
					t.Errorf("%d words, %d things: %d pieces", long, n, many)
				}
			}
		}
	}
}

// R6: neither what is written over, nor what is cleared, nor refused calls leave
// anything behind.
func TestKeptNothing(t *testing.T) {
	m := New()
	next := chance(6)
	for range 5000 {
		addr := 8 * uint64(next(1<<20))
		m.Write(addr, 8*uint64(1+next(3000)), of(1+next(5), some), 1)
		m.Write(addr, 1<<40, typed(true), math.MaxUint64)
		m.Write(addr+1, 8, typed(true), 1)
		m.Write(addr, 1<<40, api.Type{Words: 2, Mask: []bool{true}}, 1)
		m.Clear(1<<40, 1<<40)
		m.Write(1<<40+addr, 1<<39, of(7, no), 1<<20)
		m.Write(1<<40+addr, 1<<39, of(7, all), 0)
	}
	checkShape(t, "written", m)
	m.Write(0, 1<<40, of(2, some), 1<<36)
	checkMany(t, "written over", m, 1)
	m.Clear(0, 1<<39)
	checkMany(t, "half", m, 1)
	m.Clear(1<<39, 1<<39)
	checkMany(t, "cleared", m, 0)
	m.Write(4096, 1<<20, typed(true), 1)
	m.Clear(4096+8, 1<<20)
	checkMany(t, "one word", m, 1)
	m.Clear(4096, 8)
	checkMany(t, "no word", m, 0)
}

// R6: parts of a block of many things that have no pointers are not kept when they are
// parted from it.
func TestKeptParts(t *testing.T) {
	m := New()
	m.Write(0, 1<<40, of(1000, func(i int) bool { return i < 10 }), 1)
	m.Clear(1<<20, 8)
	checkMany(t, "behind the last one", m, 1)
	if p := m.pieces; p.end != 1<<17 {
		t.Errorf("kept to word %d", p.end)
	}
}

// 15.3, 15.4: very many blocks, of which none can be told at once with another, written
// up, down and by chance: the tree stays low, and each call goes one way down.
func TestMany(t *testing.T) {
	const many = 1 << 16
	order := map[string]func(i int) uint64{
		"up":     func(i int) uint64 { return uint64(i) },
		"down":   func(i int) uint64 { return uint64(many - 1 - i) },
		"chance": func(i int) uint64 { return uint64(i*40503%many+many) % many },
	}
	for what, at := range order {
		m := New()
		for i := range many {
			if e := m.Write(1<<32*at(i), 8, typed(true), 1); e != api.OK {
				t.Fatal("Write: ", e)
			}
			if n, _ := m.Pointers(0, 1<<40); n > 256 {
				t.Fatal("Pointers: ", n)
			}
		}
		checkMany(t, what, m, many)
		for i := range uint64(256) {
			if n, e := m.Pointers(i<<40, 1<<40); n != 256 || e != api.OK {
				t.Fatalf("%s: Pointers of %d: %d, %d", what, i, n, e)
			}
		}
		for i := range many {
			m.Clear(1<<32*at(i), 8)
		}
		checkMany(t, what, m, 0)
	}
}

// Joined trees of all heights, and every split of them.
func TestJoinSplit(t *testing.T) {
	for _, long := range []uint64{0, 1, 2, 3, 7, 20, 130} {
		for _, more := range []uint64{0, 1, 2, 5, 40, 200} {
			m := New()
			for i := range long + more {
				if i != long {
					m.Write(windowWords*8*2*i, 8, typed(true), 1)
				}
			}
			m.Write(windowWords*8*2*long, 1<<14, typed(true), 1<<11)
			checkShape(t, "joined", m)
			checkSplits(t, m.pieces, windowWords*2*(long+more+4))
		}
	}
}

func checkSplits(t *testing.T, p *piece, end uint64) {
	t.Helper()
	all := p.pointers()
	for at := uint64(0); at <= end; at += windowWords {
		ahead := p.ahead(at)
		left, right := split(p, at)
		checkShape(t, "left", &Masks{left})
		checkShape(t, "right", &Masks{right})
		if left.pointers() != ahead || right.pointers() != all-ahead || left.ahead(at) != ahead || right.ahead(at) != 0 {
			t.Fatalf("split at %d: %d and %d pointers, want %d of %d", at, left.pointers(), right.pointers(), ahead, all)
		}
		p = link(left, right)
		checkShape(t, "linked", &Masks{p})
	}
}

// Pieces put and cut out by chance, one by one and in rows, so that the tree is turned
// both ways, once and twice.
func TestTurns(t *testing.T) {
	for seed := range uint64(20) {
		m, next := New(), chance(seed)
		for range 600 {
			at := 8 * windowWords * uint64(next(400))
			switch next(6) {
			case 0:
				m.Clear(at, 8*windowWords*uint64(1+next(80)))
			case 1:
				m.Write(at, 8*windowWords*uint64(1+next(20)), of(2, some), 300)
			case 2:
				m.Clear(at, 8)
			default:
				m.Write(at, 8, typed(true), 1)
			}
			checkShape(t, "turns", m)
		}
	}
}

// R1: masks that nobody made are such as know of none.
func TestZeroMasks(t *testing.T) {
	m, w := &Masks{}, &model{}
	checkAll(t, "zero", m, w)
	checkClear(t, "zero", m, w, 8, 1<<40)
	checkWrite(t, "zero", m, w, 8, 1<<40, of(5, some), 1<<30)
	checkWrite(t, "zero", m, w, 80, 80, of(5, some), 2)
	checkAll(t, "zero", m, w)
}
