package ratio

import (
	"math"
	"math/big"
	"slices"
	"testing"

	"mallow/api"
)

const (
	all      uint64 = math.MaxUint64
	inf      uint64 = 0x7ff0000000000000
	minusInf uint64 = 0xfff0000000000000
	minus0   uint64 = 0x8000000000000000
	one      uint64 = 0x3ff0000000000000
	half     uint64 = 0x3fe0000000000000
	two      uint64 = 0x4000000000000000
	tiniest  uint64 = 0x0000000000000001
	greatest uint64 = 0x7fefffffffffffff
)

// nans are patterns of NaNs: quiet and signalling ones, of both signs.
func nans() []uint64 {
	return []uint64{api.Canon, 0x7ff8000000000000, 0x7ff0000000000001, 0x7ff7ffffffffffff, all >> 1, 0xfff8000000000000, 0xfff0000000000001, 0xfff8000000000007, all}
}

// noise answers n patterns without a pattern, the same ones each time.
func noise(n int) []uint64 {
	out := make([]uint64, n)
	x := uint64(0x9e3779b97f4a7c15)
	for i := range out {
		x ^= x << 13
		x ^= x >> 7
		x ^= x << 17
		out[i] = x
	}
	return out
}

// numbers are whole numbers around 0, around each power of two, halfway
// between neighbouring doubles, and around 2^64 - 1; they rise.
func numbers() []uint64 {
	out := []uint64{0, 3, 5, 7, 10, 99, 100, 101, 4194303, 4194305, 8191, 8193, 1<<53 + 3, 1<<54 + 2, 1<<54 + 6, all - 1023, all - 1024, all - 1025, all - 2047, all - 2048}
	for k := range 64 {
		p := uint64(1) << k
		out = append(out, p-1, p, p+1, p/3, p+p/3, all-p, all-p/3)
	}
	for i, x := range noise(60) {
		out = append(out, x, x>>(i%64))
	}
	slices.Sort(out)
	return slices.Compact(out)
}

// patterns are doubles of every kind but NaNs, with both signs.
func patterns() []uint64 {
	out := []uint64{0, tiniest, 2, 0x000fffffffffffff, 0x0010000000000000, 0x0010000000000001, 0x3c90000000000000, 0x3ca0000000000000, 0x3fd5555555555555, 0x3fefffffffffffff, half, one, 0x3ff0000000000001, 0x3ff8000000000000, two, 0x4008000000000000, 0x4330000000000001, 0x4340000000000000, 0x43dfffffffffffff, 0x43e0000000000000, 0x43efffffffffffff, 0x43f0000000000000, 0x5fe0000000000000, 0x7fe0000000000000, greatest, inf}
	for _, x := range []float64{0.1, 0.3, 0.7, 0.9, 1e-300, 1e300, 123456.789} {
		out = append(out, math.Float64bits(x))
	}
	for _, x := range noise(12) {
		out = append(out, x>>1&0x7fefffffffffffff, 0x3fe0000000000000|x>>12)
	}
	for _, x := range slices.Clone(out) {
		out = append(out, x|minus0)
	}
	slices.Sort(out)
	return slices.Compact(out)
}

func fraction(x float64) *big.Rat {
	r := new(big.Rat)
	r.SetFloat64(x)
	return r
}

// rounded is the double nearest to an exact number; an exact 0 has no sign of
// its own, so that minus says it.
func rounded(x *big.Rat, minus bool) float64 {
	near, _ := x.Float64()
	if x.Sign() < 0 || x.Sign() == 0 && minus {
		return math.Copysign(near, -1)
	}
	return near
}

func finite(x float64) bool { return !math.IsNaN(x) && !math.IsInf(x, 0) }

// exactSum and exactProduct are one step each, reckoned without bounds and
// rounded once; what is not finite has no value, and is told by the rules.
func exactSum(x, y float64) float64 {
	if !finite(x) || !finite(y) {
		return x + y
	}
	return rounded(new(big.Rat).Add(fraction(x), fraction(y)), math.Signbit(x) && math.Signbit(y))
}

func exactProduct(x, y float64) float64 {
	if !finite(x) || !finite(y) {
		return x * y
	}
	return rounded(new(big.Rat).Mul(fraction(x), fraction(y)), math.Signbit(x) != math.Signbit(y))
}

// nearest is the double nearest to a whole number, ties to even.
func nearest(n uint64) float64 {
	x := new(big.Float).SetPrec(53).SetMode(big.ToNearestEven).SetUint64(n)
	f, _ := x.Float64()
	return f
}

// 2.1

func TestOf(t *testing.T) {
	for _, c := range []struct{ a, b, want uint64 }{
		{1, 2, half}, {2, 1, two}, {6, 3, two}, {1, 1, one}, {1, 3, 0x3fd5555555555555}, {2, 3, 0x3fe5555555555555}, {1, 10, 0x3fb999999999999a},
		{0, 1, 0}, {0, 5, 0}, {0, all, 0},
		{0, 0, api.Canon}, {1, 0, inf}, {3, 0, inf}, {all, 0, inf},
		{1 << 53, 1, 0x4340000000000000}, {1<<53 + 1, 1, 0x4340000000000000}, {1<<53 + 2, 1, 0x4340000000000001}, {1<<53 + 3, 1, 0x4340000000000002},
		{all, 1, 0x43f0000000000000}, {all - 1023, 1, 0x43f0000000000000}, {all - 1024, 1, 0x43efffffffffffff}, {all, all, one}, {1, all, 0x3bf0000000000000}, {all - 1, all, one},
		{1 << 63, 1, 0x43e0000000000000}, {1<<63 + 1024, 1, 0x43e0000000000000}, {1<<63 + 1025, 1, 0x43e0000000000001}, {1<<63 + 3072, 1, 0x43e0000000000002},
		// The divisor is rounded by itself: 2^53 + 1 becomes 2^53.
		{1 << 53, 1<<53 + 1, one}, {1<<53 + 1, 1<<53 + 1, one},
	} {
		if got := Of(c.a, c.b); got != c.want {
			t.Errorf("Of(%d, %d): %x; want %x", c.a, c.b, got, c.want)
		}
	}
}

func TestOfExact(t *testing.T) {
	for _, a := range numbers() {
		for _, b := range numbers() {
			if b == 0 {
				continue
			}
			exact := new(big.Rat).Quo(fraction(nearest(a)), fraction(nearest(b)))
			near, _ := exact.Float64()
			if got := Of(a, b); got != math.Float64bits(near) {
				t.Fatalf("Of(%d, %d): %x; want %x", a, b, got, math.Float64bits(near))
			}
		}
	}
}

// 2.2

func TestTimes(t *testing.T) {
	for _, c := range []struct{ n, r, want uint64 }{
		{10, half, 5}, {3, two, 6}, {3, half, 1}, {7, 0x3ff8000000000000, 10}, {1, one, 1}, {5, 0x3fefffffffffffff, 4}, {0, one, 0}, {0, greatest, 0},
		// Each step is rounded by itself: 3 times the double below a third is 1.
		{3, 0x3fd5555555555555, 1}, {3, 0x3fd5555555555554, 0},
		{1, half, 0}, {1, 0x3fefffffffffffff, 0}, {1, tiniest, 0}, {all, tiniest, 0}, {1, 0x3ff0000000000001, 1},
		{7, 0, 0}, {7, minus0, 0}, {0, 0, 0}, {0, minus0, 0}, {all, 0, 0}, {all, minus0, 0},
		{10, 0xbff0000000000000, 0}, {all, 0xbff0000000000000, 0}, {1, 0xffefffffffffffff, 0}, {1, minus0 | tiniest, 0},
		{1, inf, all}, {10, inf, all}, {all, inf, all}, {0, inf, 0}, {1, minusInf, 0}, {all, minusInf, 0}, {0, minusInf, 0},
		{1, greatest, all}, {all, greatest, all}, {2, greatest, all},
		{1 << 63, one, 1 << 63}, {1 << 63, two, all}, {1 << 63, 0x3fffffffffffffff, all - 2047}, {1 << 62, two, 1 << 63}, {1 << 62, 0x4010000000000000, all},
		{1, 0x43efffffffffffff, all - 2047}, {1, 0x43f0000000000000, all}, {1, 0x43e0000000000000, 1 << 63}, {1, 0x43e0000000000001, 1<<63 + 2048}, {1, 0x43dfffffffffffff, 1<<63 - 1024},
		// n is rounded by itself: up to 2^64, or to an even neighbour.
		{all, one, all}, {all - 1023, one, all}, {all - 1024, one, all - 2047}, {1<<53 + 1, one, 1 << 53}, {1<<53 + 3, one, 1<<53 + 4}, {1<<63 + 1024, one, 1 << 63}, {1<<63 + 1025, one, 1<<63 + 2048},
	} {
		if got := Times(c.n, c.r); got != c.want {
			t.Errorf("Times(%d, %x): %d; want %d", c.n, c.r, got, c.want)
		}
	}
	for _, r := range nans() {
		for _, n := range []uint64{0, 1, 5, 1 << 63, all} {
			if got := Times(n, r); got != 0 {
				t.Errorf("Times(%d, %x): %d; want 0", n, r, got)
			}
		}
	}
}

// exactTimes is Times of a finite r, without a conversion of a double to a
// whole number.
func exactTimes(n, r uint64) uint64 {
	product := exactProduct(nearest(n), math.Float64frombits(r))
	if math.IsInf(product, 1) {
		return all
	}
	if product <= 0 {
		return 0
	}
	x := fraction(product)
	whole := new(big.Int).Quo(x.Num(), x.Denom())
	if !whole.IsUint64() {
		return all
	}
	return whole.Uint64()
}

func TestTimesExact(t *testing.T) {
	for _, n := range numbers() {
		for _, r := range patterns() {
			if !finite(math.Float64frombits(r)) {
				continue
			}
			if got, want := Times(n, r), exactTimes(n, r); got != want {
				t.Fatalf("Times(%d, %x): %d; want %d", n, r, got, want)
			}
		}
	}
}

// 2.3

func TestGoal(t *testing.T) {
	for _, c := range []struct {
		live    uint64
		percent int64
		want    uint64
	}{
		{1 << 23, 100, 1 << 24}, {10000000, 50, 15000000}, {10000000, 1, 10100000}, {10000000, 0, 10000000}, {10000000, 200, 30000000}, {1 << 30, 12, 1<<30 + 128849018},
		{0, 100, 4194304}, {0, 0, 4194304}, {0, math.MaxInt64, 4194304}, {1, 100, 4194304}, {2097151, 100, 4194304}, {2097152, 100, 4194304}, {2097153, 100, 4194306}, {4194303, 0, 4194304}, {4194304, 0, 4194304}, {4194305, 0, 4194305},
		{0, -1, all}, {5, -1, all}, {all, -1, all}, {1 << 23, -100, all}, {5, math.MinInt64, all}, {0, math.MinInt64, all},
		{all, 0, all}, {all, 100, all}, {all, 1, all}, {all - 1, 0, all - 1}, {1 << 63, 100, all}, {1<<63 - 1, 100, all}, {1<<63 - 2048, 100, all - 4095}, {1 << 62, 100, 1 << 63}, {1 << 62, 300, all}, {1 << 62, 299, 18400627213525278720},
		{1, math.MaxInt64, 92233720368547761}, {1000, math.MaxInt64, all}, {all, math.MaxInt64, all},
	} {
		if got := Goal(c.live, c.percent); got != c.want {
			t.Errorf("Goal(%d, %d): %d; want %d", c.live, c.percent, got, c.want)
		}
	}
}

func TestGoalExact(t *testing.T) {
	most := new(big.Int).SetUint64(all)
	for _, live := range numbers() {
		for _, p := range numbers() {
			percent := int64(p >> 1)
			growth := exactTimes(live, Of(uint64(percent), 100))
			sum := new(big.Int).SetUint64(live)
			sum.Add(sum, new(big.Int).SetUint64(growth))
			if sum.Cmp(most) > 0 {
				sum.Set(most)
			}
			if want := max(sum.Uint64(), 4194304); Goal(live, percent) != want {
				t.Fatalf("Goal(%d, %d): %d; want %d", live, percent, Goal(live, percent), want)
			}
			if got := Goal(live, -1-percent); got != all {
				t.Fatalf("Goal(%d, %d): %d; want 2^64 - 1", live, -1-percent, got)
			}
		}
	}
}

// 2.4

func TestPace(t *testing.T) {
	for _, c := range []struct{ live, goal, pages, want uint64 }{
		{0, 16384, 8192, half}, {100, 16484, 8192, half}, {1 << 40, 1<<40 + 32768, 65536, two}, {0, 1 << 20, 1 << 20, one},
		{0, 0, 8192, one}, {0, 8191, 8192, one}, {0, 8192, 8192, one}, {0, 8193, 8193, one}, {100, 8291, 8192, one}, {100, 8292, 8192, one}, {100, 8293, 8193, one}, {7, 7, 4096, half}, {all, all, 8192, one},
		{5, 2, 8192, one}, {1 << 20, 0, 8192, one}, {all, 0, 4096, half}, {all, all - 1, 4096, half}, {1 << 63, 1, 16384, two},
		{0, all, 0, 0}, {0, 0, 0, 0}, {5, 2, 0, 0}, {0, all, all, one}, {1, all, 1 << 63, half}, {0, 0, all, 0x4320000000000000},
	} {
		if got := Pace(c.live, c.goal, c.pages); got != c.want {
			t.Errorf("Pace(%d, %d, %d): %x; want %x", c.live, c.goal, c.pages, got, c.want)
		}
	}
}

func TestPaceIsOf(t *testing.T) {
	for _, live := range numbers() {
		for _, goal := range numbers() {
			d := uint64(8192)
			if goal > live && goal-live > d {
				d = goal - live
			}
			for _, pages := range []uint64{0, 1, 3, 8192, 1<<53 + 1, all} {
				if got, want := Pace(live, goal, pages), Of(pages, d); got != want {
					t.Fatalf("Pace(%d, %d, %d): %x; want %x", live, goal, pages, got, want)
				}
			}
		}
	}
}

// 2.5

func TestMix(t *testing.T) {
	bits := math.Float64bits
	for _, c := range []struct{ a, b, w, want uint64 }{
		{0, bits(4), half, two}, {bits(3), bits(5), 0, bits(3)}, {bits(3), bits(5), one, bits(5)}, {bits(3), bits(5), half, bits(4)}, {bits(3), bits(5), bits(0.25), bits(3.5)}, {bits(3), bits(5), two, bits(7)}, {bits(3), bits(5), bits(-1), bits(1)}, {bits(-3), bits(3), half, 0},
		{0, 0, half, 0}, {minus0, minus0, half, minus0}, {minus0, 0, half, 0}, {0, minus0, half, 0}, {minus0, minus0, two, 0}, {0, minus0, minus0, 0}, {minus0, 0, minus0, minus0},
		{inf, bits(1), 0, inf}, {inf, inf, half, inf}, {minusInf, minusInf, half, minusInf}, {bits(1), inf, one, inf}, {bits(1), minusInf, half, minusInf}, {bits(1), bits(2), inf, api.Canon}, {bits(1), bits(-2), inf, minusInf}, {bits(-1), bits(2), inf, inf},
		{inf, 0, one, api.Canon}, {bits(1), inf, 0, api.Canon}, {bits(1), inf, minus0, api.Canon}, {inf, minusInf, half, api.Canon}, {minusInf, inf, half, api.Canon}, {0, bits(1), inf, api.Canon}, {bits(1), 0, minusInf, api.Canon},
		{greatest, greatest, half, greatest}, {greatest, greatest, two, inf}, {greatest, 0, bits(-1), inf}, {greatest, greatest, bits(3), api.Canon}, {tiniest, 0, half, 0}, {tiniest | minus0, minus0, half, minus0},
		// 1 less the tiniest weight is 1, after rounding.
		{bits(3), bits(5), tiniest, bits(3)},
	} {
		if got := Mix(c.a, c.b, c.w); got != c.want {
			t.Errorf("Mix(%x, %x, %x): %x; want %x", c.a, c.b, c.w, got, c.want)
		}
	}
}

// told is the pattern of a double; all NaNs are one.
func told(x float64) uint64 {
	if x != x {
		return 0x7ff8000000000001
	}
	return math.Float64bits(x)
}

// If a product and a sum were rounded as one step, some of these would come
// out otherwise.
func TestMixExact(t *testing.T) {
	double := math.Float64frombits
	list := patterns()
	for _, w := range list {
		rest := exactSum(1, -double(w))
		for i, a := range list {
			first := exactProduct(double(a), rest)
			// Every third of them, by turns: exact fractions are slow.
			for j := i % 3; j < len(list); j += 3 {
				b := list[j]
				want := told(exactSum(first, exactProduct(double(b), double(w))))
				if got := Mix(a, b, w); got != want {
					t.Fatalf("Mix(%x, %x, %x): %x; want %x", a, b, w, got, want)
				}
			}
		}
	}
}

// 2.6

// place is where a pattern stands among all of them, as a number.
func place(x uint64) uint64 {
	switch {
	case x&^minus0 > inf:
		return all
	case x&minus0 != 0:
		return ^x
	}
	return x | minus0
}

func TestOrder(t *testing.T) {
	for _, c := range []struct {
		a, b uint64
		want int
	}{
		{one, two, -1}, {two, one, 1}, {one, one, 0}, {half, 0xbfe0000000000000, 1}, {0xc000000000000000, 0xbff0000000000000, -1},
		{minus0, 0, -1}, {0, minus0, 1}, {0, 0, 0}, {minus0, minus0, 0}, {minus0, tiniest, -1}, {minus0 | tiniest, minus0, -1}, {0, tiniest, -1}, {minus0, minus0 | tiniest, 1},
		{inf, inf, 0}, {minusInf, minusInf, 0}, {minusInf, inf, -1}, {inf, greatest, 1}, {minusInf, minus0 | greatest, -1},
		{inf, api.Canon, -1}, {minusInf, 0xfff8000000000000, -1}, {0xfff0000000000001, inf, 1}, {0xfff8000000000000, minusInf, 1}, {0x7ff8000000000000, 0xfff0000000000001, 0}, {all, api.Canon, 0}, {api.Canon, api.Canon, 0},
	} {
		if got := Order(c.a, c.b); got != c.want {
			t.Errorf("Order(%x, %x): %d; want %d", c.a, c.b, got, c.want)
		}
	}
}

func TestOrderByPlace(t *testing.T) {
	list := append(patterns(), nans()...)
	list = append(list, noise(200)...)
	for _, a := range list {
		for _, b := range list {
			want := 0
			switch {
			case place(a) < place(b):
				want = -1
			case place(a) > place(b):
				want = 1
			}
			if got := Order(a, b); got != want {
				t.Fatalf("Order(%x, %x): %d; want %d", a, b, got, want)
			}
		}
	}
}

// 2.7

func isNaN(x uint64) bool { return x&^minus0 > inf }

func TestNaNsAreCanon(t *testing.T) {
	few := append(nans(), 0, minus0, half, one, two, inf, minusInf, greatest, minus0|greatest, tiniest)
	for _, a := range few {
		for _, b := range few {
			for _, w := range few {
				got := Mix(a, b, w)
				if isNaN(got) && got != api.Canon {
					t.Errorf("Mix(%x, %x, %x): %x, a NaN that is not Canon", a, b, w, got)
				}
				if (isNaN(a) || isNaN(b) || isNaN(w)) && got != api.Canon {
					t.Errorf("Mix(%x, %x, %x): %x; want Canon", a, b, w, got)
				}
			}
		}
	}
	for _, a := range numbers() {
		for _, b := range numbers() {
			if got := Of(a, b); isNaN(got) != (a == 0 && b == 0) || isNaN(got) && got != api.Canon {
				t.Errorf("Of(%d, %d): %x", a, b, got)
			}
			if got := Pace(a, b, a); isNaN(got) {
				t.Errorf("Pace(%d, %d, %d): %x", a, b, a, got)
			}
		}
	}
}

func TestTimesAndGoalDoNotFall(t *testing.T) {
	list := numbers()
	factors := append(patterns(), nans()...)
	for i := 1; i < len(list); i++ {
		low, high := list[i-1], list[i]
		for _, r := range factors {
			if Times(low, r) > Times(high, r) {
				t.Fatalf("Times(%d, %x) is above Times(%d, %x)", low, r, high, r)
			}
		}
		for _, p := range list {
			if percent := int64(p); Goal(low, percent) > Goal(high, percent) {
				t.Fatalf("Goal(%d, %d) is above Goal(%d, %d)", low, percent, high, percent)
			}
		}
	}
}

func TestOrderIsAnOrder(t *testing.T) {
	list := append(patterns(), nans()...)
	for _, a := range list {
		if Order(a, a) != 0 {
			t.Fatalf("Order(%x, %x): %d; want 0", a, a, Order(a, a))
		}
		for _, b := range list {
			ab := Order(a, b)
			if ab < -1 || ab > 1 || ab != -Order(b, a) {
				t.Fatalf("Order(%x, %x): %d, and back: %d", a, b, ab, Order(b, a))
			}
			if ab == 0 && a != b && !(isNaN(a) && isNaN(b)) {
				t.Fatalf("Order(%x, %x): 0, of unlike ones", a, b)
			}
			for _, c := range list {
				if ab <= 0 && Order(b, c) <= 0 && Order(a, c) != min(ab, Order(b, c)) {
					t.Fatalf("Order does not lead on: %x, %x, %x", a, b, c)
				}
			}
		}
	}
}
