package num

import (
	"math"
	"math/big"
	"slices"
	"testing"
)

const all uint64 = math.MaxUint64

// rounding is a call of two numbers, as Up, Down and Ceil are.
type rounding func(n, a uint64) (uint64, bool)

type roundingCase struct {
	n, a, want uint64
	ok         bool
}

func checkRounding(t *testing.T, name string, call rounding, cases []roundingCase) {
	t.Helper()
	for _, c := range cases {
		if got, ok := call(c.n, c.a); got != c.want || ok != c.ok {
			t.Errorf("%s(%d, %d): %d, %v; want %d, %v", name, c.n, c.a, got, ok, c.want, c.ok)
		}
	}
}

// edges are numbers around 0, around each power of two and its thirds, and
// around 2^64 - 1: where sums, differences and products wrap round.
func edges() []uint64 {
	var out []uint64
	for k := range 64 {
		p := uint64(1) << k
		out = append(out, p-1, p, p+1, p/3, p+p/3, all-p, all-p/3)
	}
	out = append(out, 0, 3, 5, 6, 7, 9, 10, 48, 100, all-2, all-1, all)
	slices.Sort(out)
	return slices.Compact(out)
}

func whole(n uint64) *big.Int { return new(big.Int).SetUint64(n) }

// exact answers what Down, Up and Ceil are in numbers without bounds; a is not 0.
func exact(n, a uint64) (down, up, ceil *big.Int) {
	quot, rest := new(big.Int).QuoRem(whole(n), whole(a), new(big.Int))
	down = new(big.Int).Mul(quot, whole(a))
	ceil = new(big.Int).Set(quot)
	if rest.Sign() != 0 {
		ceil.Add(ceil, big.NewInt(1))
	}
	up = new(big.Int).Mul(ceil, whole(a))
	return down, up, ceil
}

// fitted is what a call answers whose exact answer is x.
func fitted(x *big.Int) (uint64, bool) {
	if !x.IsUint64() {
		return 0, false
	}
	return x.Uint64(), true
}

// 1.1

func TestDown(t *testing.T) {
	checkRounding(t, "Down", Down, []roundingCase{
		{0, 1, 0, true}, {0, 4, 0, true}, {3, 4, 0, true}, {4, 4, 4, true}, {7, 4, 4, true}, {100, 48, 96, true},
		{all, 1, all, true}, {all, 2, all - 1, true}, {all, all, all, true}, {all - 1, all, 0, true}, {all, 1 << 63, 1 << 63, true}, {1<<63 - 1, 1 << 63, 0, true},
		{0, 0, 0, false}, {7, 0, 0, false}, {all, 0, 0, false},
	})
}

func TestUp(t *testing.T) {
	checkRounding(t, "Up", Up, []roundingCase{
		{0, 1, 0, true}, {0, 4, 0, true}, {1, 4, 4, true}, {5, 4, 8, true}, {8, 4, 8, true}, {97, 48, 144, true}, {0, all, 0, true},
		{all, 1, all, true}, {all, all, all, true}, {1, all, all, true}, {all - 1, 2, all - 1, true}, {all, 3, all, true}, {all - 1, 3, all, true}, {all - 15, 16, all - 15, true}, {all - 30, 16, all - 15, true},
		{1, 1 << 63, 1 << 63, true}, {1 << 63, 1 << 63, 1 << 63, true}, {1 << 63, 1<<63 + 1, 1<<63 + 1, true},
		{all, 2, 0, false}, {all, 4, 0, false}, {all - 14, 16, 0, false}, {1<<63 + 1, 1 << 63, 0, false}, {1<<63 + 2, 1<<63 + 1, 0, false}, {all, all - 1, 0, false},
		{0, 0, 0, false}, {3, 0, 0, false}, {all, 0, 0, false},
	})
}

func TestCeil(t *testing.T) {
	checkRounding(t, "Ceil", Ceil, []roundingCase{
		{0, 1, 0, true}, {0, 4, 0, true}, {1, 4, 1, true}, {8, 4, 2, true}, {9, 4, 3, true}, {12, 4, 3, true},
		{all, 1, all, true}, {all, 2, 1 << 63, true}, {all - 1, 2, 1<<63 - 1, true}, {all, all, 1, true}, {1, all, 1, true}, {0, all, 0, true}, {all, all - 1, 2, true},
		{0, 0, 0, false}, {1, 0, 0, false}, {all, 0, 0, false},
	})
}

func checkExact(t *testing.T, n, a uint64) {
	t.Helper()
	down, up, ceil := exact(n, a)
	for _, c := range []struct {
		name string
		call rounding
		want *big.Int
	}{{"Down", Down, down}, {"Up", Up, up}, {"Ceil", Ceil, ceil}} {
		want, wantOK := fitted(c.want)
		if got, ok := c.call(n, a); got != want || ok != wantOK {
			t.Fatalf("%s(%d, %d): %d, %v; want %d, %v", c.name, n, a, got, ok, want, wantOK)
		}
	}
}

func TestRoundingIsExact(t *testing.T) {
	for n := range uint64(200) {
		for a := uint64(1); a < 200; a++ {
			checkExact(t, n, a)
			checkExact(t, all-n, a)
			checkExact(t, n, all-a)
			checkExact(t, all-n, all-a)
		}
	}
	numbers := edges()
	for _, n := range numbers {
		for _, a := range numbers {
			if a != 0 {
				checkExact(t, n, a)
			}
		}
	}
}

func TestRoundingByNothing(t *testing.T) {
	for _, n := range edges() {
		for name, call := range map[string]rounding{"Down": Down, "Up": Up, "Ceil": Ceil} {
			if got, ok := call(n, 0); got != 0 || ok {
				t.Errorf("%s(%d, 0): %d, %v; want 0, false", name, n, got, ok)
			}
		}
	}
}

// 1.2

func TestPow(t *testing.T) {
	powers := map[uint64]int{}
	for k := range 64 {
		powers[1<<k] = k
	}
	numbers := edges()
	for n := range uint64(5000) {
		numbers = append(numbers, n)
	}
	for _, n := range numbers {
		if _, want := powers[n]; Pow(n) != want {
			t.Errorf("Pow(%d): %v; want %v", n, Pow(n), want)
		}
	}
	if Pow(0) || !Pow(1) || !Pow(64) || !Pow(1<<63) || Pow(all) || Pow(1<<63+1) {
		t.Error("Pow of the edges")
	}
}

// halvings is Log by its other meaning, for numbers above 0.
func halvings(n uint64) int {
	k := 0
	for ; n > 1; n /= 2 {
		k++
	}
	return k
}

func TestLog(t *testing.T) {
	if got := Log(0); got != -1 {
		t.Errorf("Log(0): %d; want -1", got)
	}
	for _, c := range []struct {
		n    uint64
		want int
	}{{1, 0}, {2, 1}, {3, 1}, {4, 2}, {9, 3}, {1<<32 - 1, 31}, {1 << 32, 32}, {1<<63 - 1, 62}, {1 << 63, 63}, {all, 63}} {
		if got := Log(c.n); got != c.want {
			t.Errorf("Log(%d): %d; want %d", c.n, got, c.want)
		}
	}
	numbers := edges()
	for n := range uint64(5000) {
		numbers = append(numbers, n)
	}
	for _, n := range numbers {
		if n == 0 {
			continue
		}
		if got := Log(n); got != halvings(n) {
			t.Errorf("Log(%d): %d; want %d", n, got, halvings(n))
		}
	}
}

// 1.3

func TestMagic(t *testing.T) {
	for _, c := range []struct{ d, want uint32 }{
		{0, 0}, {1, 0}, {2, 1 << 31}, {3, 1431655766}, {8, 536870912}, {48, 89478486}, {32768, 131072},
		{1<<31 - 1, 3}, {1 << 31, 2}, {1<<31 + 1, 2}, {1<<32 - 2, 2}, {1<<32 - 1, 2},
	} {
		if got := Magic(c.d); got != c.want {
			t.Errorf("Magic(%d): %d; want %d", c.d, got, c.want)
		}
	}
	for d := uint64(2); d < 1<<17; d++ {
		want := (uint64(1)<<32-1)/d + 1
		if got := uint64(Magic(uint32(d))); got != want {
			t.Fatalf("Magic(%d): %d; want %d", d, got, want)
		}
	}
}

func TestQuot(t *testing.T) {
	for _, c := range []struct{ x, magic, want uint32 }{
		{0, 0, 0}, {0, math.MaxUint32, 0}, {math.MaxUint32, 0, 0}, {math.MaxUint32, 1, 0}, {1, math.MaxUint32, 0},
		{1, 1 << 31, 0}, {2, 1 << 31, 1}, {1 << 31, 1 << 31, 1 << 30}, {math.MaxUint32, 2, 1},
		{1 << 16, 1 << 16, 1}, {1<<16 - 1, 1 << 16, 0}, {math.MaxUint32, math.MaxUint32, math.MaxUint32 - 1},
	} {
		if got := Quot(c.x, c.magic); got != c.want {
			t.Errorf("Quot(%d, %d): %d; want %d", c.x, c.magic, got, c.want)
		}
	}
	for _, x := range edges() {
		for _, m := range edges() {
			if x > math.MaxUint32 || m > math.MaxUint32 {
				continue
			}
			product := new(big.Int).Mul(whole(x), whole(m))
			want := product.Rsh(product, 32).Uint64()
			if got := uint64(Quot(uint32(x), uint32(m))); got != want {
				t.Fatalf("Quot(%d, %d): %d; want %d", x, m, got, want)
			}
		}
	}
}

// 1.4

func checkQuot(t *testing.T, x uint64, d, magic uint32) {
	if got := Quot(uint32(x), magic); uint64(got) != x/uint64(d) {
		t.Fatalf("Quot(%d, Magic(%d)): %d; want %d", x, d, got, x/uint64(d))
	}
}

// Neither Quot nor the quotient falls while x rises, so that all x below 2^17
// are told by those at which the quotient steps: the multiples of d, and the
// numbers 1 below them.
func TestQuotDividesBelow17Bits(t *testing.T) {
	for d := uint32(2); d <= 32768; d++ {
		magic := Magic(d)
		for x := uint64(d); x < 1<<17; x += uint64(d) {
			checkQuot(t, x-1, d, magic)
			checkQuot(t, x, d, magic)
		}
		checkQuot(t, 0, d, magic)
		checkQuot(t, 1<<17-1, d, magic)
	}
}

// What Quot is above the true quotient grows with x, so that the steps
// nearest to the greatest x are the worst.
func TestQuotDividesUpToItsBound(t *testing.T) {
	for d := uint32(2); d <= 32768; d++ {
		magic := Magic(d)
		most := (uint64(1) << 32) / uint64(d)
		checkQuot(t, most, d, magic)
		checkQuot(t, most-1, d, magic)
		x := most / uint64(d) * uint64(d)
		for range 40 {
			if x == 0 {
				break
			}
			checkQuot(t, x, d, magic)
			checkQuot(t, x-1, d, magic)
			x -= uint64(d)
		}
	}
}

func TestUpLessDown(t *testing.T) {
	numbers := edges()
	for _, n := range numbers {
		for _, a := range numbers {
			up, ok := Up(n, a)
			if !ok {
				continue
			}
			down, ok := Down(n, a)
			if !ok || down > n || up < n {
				t.Fatalf("n %d, a %d: Up %d, Down %d, %v", n, a, up, down, ok)
			}
			want := a
			if n%a == 0 {
				want = 0
			}
			if up-down != want {
				t.Fatalf("Up(%d, %d) less Down: %d; want %d", n, a, up-down, want)
			}
		}
	}
}

func TestExamples(t *testing.T) {
	checkRounding(t, "Up", Up, []roundingCase{{5, 4, 8, true}, {8, 4, 8, true}, {all, 2, 0, false}})
	checkRounding(t, "Down", Down, []roundingCase{{7, 0, 0, false}})
	checkRounding(t, "Ceil", Ceil, []roundingCase{{9, 4, 3, true}, {0, 4, 0, true}})
	if Pow(0) || !Pow(64) || Log(0) != -1 || Log(9) != 3 {
		t.Error("Pow and Log")
	}
	if Magic(8) != 536870912 || Magic(1) != 0 || Quot(100, Magic(48)) != 2 {
		t.Error("Magic and Quot")
	}
}
