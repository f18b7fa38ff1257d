package span

import (
	"math"
	"slices"
	"testing"

	"mallow/api"
	"mallow/class"
	"mallow/num"
)

// R6: the greatest manual spans of the least slots keep no more than was taken.
func TestGreatest(t *testing.T) {
	const many = 1 << 37
	for _, page := range []uint64{0, 1, allPages - onePages} {
		s, w := madeManual(t, page, onePages, 8)
		if s.Info().Slots != many || len(s.used) != 0 {
			t.Fatalf("%v, %d words", s.Info(), len(s.used))
		}
		for want := range 130 {
			if i, e := checkNext(t, "greatest", s, w); i != want || e != api.OK {
				t.Fatalf("Next: %d, %d, want %d", i, e, want)
			}
		}
		for _, i := range oddSlots(many) {
			checkGive(t, "greatest", s, w, i)
			if w.has(i) {
				checkPlace(t, s, w, i)
			}
		}
		if g := s.Give(many - 1); g != api.ErrFree || s.Give(many) != api.ErrArg {
			t.Error("Give of the last slot: ", g)
		}
		for _, want := range []int{0, 1, 63, 64, 65, 130} {
			if i, e := checkNext(t, "again", s, w); i != want || e != api.OK {
				t.Fatalf("Next: %d, %d, want %d", i, e, want)
			}
		}
		checkPlaces(t, s, w)
		if len(s.used) != 3 || len(s.marks) != 0 {
			t.Errorf("%d and %d words", len(s.used), len(s.marks))
		}
	}
}

// R6: neither many calls on few slots nor refused ones keep more and more.
func TestKept(t *testing.T) {
	s, _ := madeManual(t, 0, onePages, 8)
	for range 10000 {
		i, _ := s.Next()
		s.Give(i)
		s.Give(math.MaxInt)
		s.Give(1 << 36)
		s.Mark(1 << 36)
		s.Used(1 << 36)
		s.Slot(1 << 36)
		s.Index(1 << 39)
	}
	if len(s.used) != 1 || len(s.marks) != 0 {
		t.Errorf("manual: %d and %d words", len(s.used), len(s.marks))
	}
	u, w := madeNew(t, 0, 1, false)
	for k := range 5000 {
		u.Next()
		u.Mark(k % 1024)
		u.Mark(1024 + k)
		if k%1500 == 0 {
			u.Sweep()
		}
	}
	if limit := w.info.Slots / 64; len(u.used) > limit || len(u.marks) > limit {
		t.Errorf("in use: %d and %d words", len(u.used), len(u.marks))
	}
}

// R1: a span that nobody made is dead and has no slots.
func TestZeroSpan(t *testing.T) {
	s := &Span{}
	if s.Info() != (api.Info{}) {
		t.Error("Info: ", s.Info())
	}
	for _, i := range oddSlots(0) {
		if a, e := s.Slot(i); a != 0 || e != api.ErrArg || s.Used(i) || s.Marked(i) {
			t.Errorf("slot %d: %d, %d", i, a, e)
		}
		if s.Give(i) != api.ErrState || s.Mark(i) != api.ErrState {
			t.Errorf("slot %d: Give, Mark", i)
		}
		if k, e := s.Index(uint64(i)); k != 0 || e != api.ErrAddr {
			t.Errorf("Index(%d): %d, %d", uint64(i), k, e)
		}
	}
	_, n := s.Next()
	_, w := s.Sweep()
	if n != api.ErrState || w != api.ErrState || s.Die() != api.ErrState {
		t.Error("Next, Sweep, Die: ", n, w)
	}
}

// The chapter's Ways: of each class Quot finds the slots, by the class's factor; of
// no span is it asked where it is not promised to be right.
func TestQuot(t *testing.T) {
	for number, c := range class.Table() {
		if number == 0 {
			continue
		}
		if s, _ := madeNew(t, 0, number, false); s.magic != c.Magic {
			t.Errorf("class %d: %d, want %d", number, s.magic, c.Magic)
		}
	}
	for _, x := range []struct {
		pages uint64
		elem  int
		quot  bool
	}{
		{1, 8, true}, {1, 8192, true}, {4, 2048, true}, {4, 32768, true}, {16, 8, true}, {16, 32768, true}, {5, 32769, false}, {16, 32769, false},
		{17, 8, false}, {17, 32768, false}, {17, 139264, false}, {onePages, 8, false}, {onePages, 1 << 40, false},
	} {
		s, _ := madeManual(t, 0, x.pages, x.elem)
		want := uint32(0)
		if x.quot {
			want = num.Magic(uint32(x.elem))
		}
		if s.magic != want {
			t.Errorf("%v: %d, want %d", x, s.magic, want)
		}
	}
}

// The words: bits at their edges, set, asked, and looked for.
func TestWords(t *testing.T) {
	edges := []int{0, 1, 62, 63, 64, 65, 127, 128, 191, 192, 200}
	for _, n := range []int{0, 1, 63, 64, 65, 128, 129} {
		var w words
		for i := range n {
			w.set(i)
		}
		for _, from := range edges {
			if got := w.clearFrom(from); got != max(from, n) {
				t.Errorf("%d bits: from %d: %d", n, from, got)
			}
		}
		for _, i := range edges {
			if i >= n {
				continue
			}
			w.unset(i)
			if w.has(i) || w.clearFrom(0) != i || w.clearFrom(i) != i || w.clearFrom(i+1) != max(i+1, n) {
				t.Errorf("%d bits: %d is clear: %d, %d", n, i, w.clearFrom(0), w.clearFrom(i+1))
			}
			w.set(i)
		}
	}
	var a, b words
	for i, x := range edges {
		a.set(x)
		if i%2 == 0 && x < 128 {
			b.set(x)
		}
	}
	if l := a.less(b); !slices.Equal(l, []int{1, 63, 65, 128, 191, 192, 200}) {
		t.Error("less: ", l)
	}
	if l := b.less(a); len(l) != 0 {
		t.Error("less: ", l)
	}
	if l := words(nil).less(a); len(l) != 0 {
		t.Error("less: ", l)
	}
	if l := a.less(nil); !slices.Equal(l, edges) {
		t.Error("less: ", l)
	}
}
