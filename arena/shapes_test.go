package arena

import (
	"slices"
	"testing"

	"mallow/api"
)

func arrays(m *Map) int {
	n := 0
	for _, o := range m.arenas {
		if o.each != nil {
			n++
		}
	}
	return n
}

// R6: a call keeps no more for a greater number: of a row of pages through many
// arenas only the first and the last may get an array, and those within lose theirs.
func TestFewArrays(t *testing.T) {
	m := New()
	const many = 1 << 18
	for c := range uint64(many) {
		m.Add(1000 + (c*5)%many)
	}
	begin := uint64(1000 * arenaPages)
	for _, x := range []struct {
		at, n uint64
		id    int
		want  int
	}{
		{0, many * arenaPages, 0, 0},
		{5, 9, 0, 0},
		{0, many * arenaPages, 3, 0},
		{9, many*arenaPages - 18, 3, 0},
		{9, many*arenaPages - 18, 4, 2},
		{700, 1, 5, 3},
		{arenaPages, arenaPages, 5, 2},
		{0, many * arenaPages, 6, 0},
	} {
		if e := m.Set(begin+x.at, x.n, x.id); e != api.OK {
			t.Errorf("Set(%d): %d", x, e)
		}
		if n := arrays(m); n != x.want {
			t.Errorf("Set(%d): %d arrays", x, n)
		}
		for _, p := range []uint64{x.at, x.at + x.n/2, x.at + x.n - 1} {
			if id := m.At((begin + p) * pageBytes); id != x.id {
				t.Errorf("Set(%d): page %d is %d's", x, p, id)
			}
		}
	}
	if e := m.Set(begin, many*arenaPages+1, 7); e != api.ErrAddr || m.At(begin*pageBytes) != 6 {
		t.Error("one more: ", e)
	}
	if l := slices.Collect(m.Chunks()); len(l) != many || !slices.IsSorted(l) || l[0] != 1000 || l[many-1] != 1000+many-1 {
		t.Error("Chunks: ", len(l))
	}
}

// R6: calls that are refused keep nothing, and pages that already are whose they
// are made take no array.
func TestKeptNothing(t *testing.T) {
	m := New()
	m.Add(4)
	m.Add(6)
	for _, n := range []uint64{0, 513, 1 << 30, 1 << 60} {
		m.Set(4*arenaPages, n, 1)
		m.Set(6*arenaPages+1, n, 1)
		m.Set(5*arenaPages, n, 1)
		m.Add(4)
		m.Add(1<<26 + n)
	}
	m.Set(4*arenaPages+3, 7, 0)
	m.Set(4*arenaPages+3, 7, -1)
	if len(m.arenas) != 2 || arrays(m) != 0 {
		t.Errorf("%d arenas, %d arrays", len(m.arenas), arrays(m))
	}
}

// R4: arrays of two arenas, and of two maps, are not the same.
func TestOwnArrays(t *testing.T) {
	a, b := New(), New()
	seen := map[*[512]int]int{}
	for i, m := range []*Map{a, b} {
		m.Add(1)
		m.Add(2)
		m.Set(512+1, 1022, i+1)
		for _, o := range m.arenas {
			seen[o.each]++
		}
	}
	if len(seen) != 4 || seen[nil] != 0 {
		t.Error("arrays: ", len(seen))
	}
}

// 11.2: the parts of a row of pages are the row, cut where a chunk ends; told as
// long as it is asked, and again.
func TestParts(t *testing.T) {
	for _, x := range []struct{ page, n uint64 }{
		{0, 0}, {0, 1}, {0, 512}, {0, 513}, {511, 1}, {511, 2}, {512, 1536}, {700, 2000}, {allPages - 1, 1}, {allPages - 1025, 1025},
	} {
		seq := parts(x.page, x.n)
		for range 2 {
			at := x.page
			for c, p := range seq {
				if c*arenaPages+p.first != at || p.first >= p.end || p.end > arenaPages {
					t.Fatalf("%d: chunk %d, part %d", x, c, p)
				}
				at = c*arenaPages + p.end
				if at != x.page+x.n && p.end != arenaPages {
					t.Fatalf("%d: chunk %d, part %d is cut", x, c, p)
				}
			}
			if at != x.page+x.n {
				t.Fatalf("%d: told till %d", x, at)
			}
		}
		n := 0
		seq(func(uint64, part) bool {
			n++
			return false
		})
		if n > 1 {
			t.Errorf("%d: %d were told, and one was asked for", x, n)
		}
	}
}
