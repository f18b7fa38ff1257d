package class

import (
	"go/ast"
	"go/parser"
	"go/token"
	"math"
	"path/filepath"
	"slices"
	"strings"
	"testing"

	"mallow/api"
	"mallow/num"
)

func made(t *testing.T, page, most int) []api.Class {
	t.Helper()
	l, e := Make(page, most)
	if e != api.OK {
		t.Fatalf("Make(%d, %d): %d", page, most, e)
	}
	return l
}

func wantRefused(t *testing.T, page, most int) {
	t.Helper()
	if l, e := Make(page, most); len(l) != 0 || e != api.ErrArg {
		t.Errorf("Make(%d, %d): %v, %d; want none, %d", page, most, l, e, api.ErrArg)
	}
}

// row is a class but for its magic, which wantRows works out.
type row struct{ size, pages, slots int }

// wantRows holds the classes from class 1 on against what was worked out by hand.
func wantRows(t *testing.T, name string, got []api.Class, want []row) {
	t.Helper()
	if len(got) != len(want)+1 {
		t.Fatalf("%s: %d classes; want %d", name, len(got), len(want)+1)
	}
	if got[0] != (api.Class{}) {
		t.Errorf("%s: class 0: %v", name, got[0])
	}
	for i, r := range want {
		c := api.Class{Size: r.size, Pages: r.pages, Slots: r.slots, Magic: math.MaxUint32/uint32(r.size) + 1}
		if got[i+1] != c {
			t.Errorf("%s: class %d: %v; want %v", name, i+1, got[i+1], c)
		}
	}
}

// tableRows are the Table's classes, all of them.
func tableRows() []row {
	return []row{
		{8, 1, 1024}, {16, 1, 512}, {24, 1, 341}, {32, 1, 256}, {48, 1, 170}, {64, 1, 128}, {80, 1, 102}, {96, 1, 85}, {112, 1, 73}, {128, 1, 64},
		{144, 1, 56}, {160, 1, 51}, {176, 1, 46}, {192, 1, 42}, {208, 1, 39}, {224, 1, 36}, {240, 1, 34}, {256, 1, 32},
		{288, 1, 28}, {320, 1, 25}, {352, 1, 23}, {384, 1, 21}, {416, 1, 19}, {448, 1, 18}, {480, 1, 17}, {512, 1, 16},
		{576, 1, 14}, {640, 1, 12}, {704, 1, 11}, {768, 1, 10}, {896, 1, 9}, {1024, 1, 8},
		{1152, 1, 7}, {1280, 1, 6}, {1408, 2, 11}, {1536, 1, 5}, {1792, 2, 9}, {2048, 1, 4},
		{2304, 2, 7}, {2688, 1, 3}, {3072, 3, 8}, {3200, 2, 5}, {3456, 3, 7}, {4096, 1, 2},
		{4864, 3, 5}, {5376, 2, 3}, {6144, 3, 4}, {6528, 4, 5}, {6784, 5, 6}, {6912, 6, 7}, {8192, 1, 1},
		{9472, 7, 6}, {9728, 6, 5}, {10240, 5, 4}, {10880, 4, 3}, {12288, 3, 2}, {13568, 5, 3}, {14336, 7, 4}, {16384, 2, 1},
		{18432, 9, 4}, {19072, 7, 3}, {20480, 5, 2}, {21760, 8, 3}, {24576, 3, 1}, {27264, 10, 3}, {28672, 7, 2}, {32768, 4, 1},
	}
}

// 5.1, 5.2: every class of the Table.
func TestTable(t *testing.T) {
	wantRows(t, "Table", Table(), tableRows())
	wantRows(t, "Make(8192, 32768)", made(t, 8192, 32768), tableRows())
}

// 5.1: the least page and the greatest, the least most and the greatest.
func TestMakeEdges(t *testing.T) {
	wantRows(t, "Make(1024, 64)", made(t, 1024, 64), []row{{8, 1, 128}, {16, 1, 64}, {24, 1, 42}, {32, 1, 32}, {48, 1, 21}, {64, 1, 16}})
	wantRows(t, "Make(65536, 64)", made(t, 65536, 64), []row{{8, 1, 8192}, {16, 1, 4096}, {24, 1, 2730}, {32, 1, 2048}, {48, 1, 1365}, {64, 1, 1024}})
	for _, page := range []int{1024, 65536} {
		l := made(t, page, 4*page)
		want := api.Class{Size: 4 * page, Pages: 4, Slots: 1, Magic: math.MaxUint32/uint32(4*page) + 1}
		if last := l[len(l)-1]; last != want {
			t.Errorf("Make(%d, %d): the last is %v; want %v", page, 4*page, last, want)
		}
	}
}

// 5.1: more pages than one, sizes put together, sizes rounded down to a
// multiple of 128; here the slots of two classes come out as equal (5.3).
func TestMakeSmallPages(t *testing.T) {
	wantRows(t, "Make(1024, 512)", made(t, 1024, 512), []row{
		{8, 1, 128}, {16, 1, 64}, {24, 1, 42}, {32, 1, 32}, {48, 1, 21}, {64, 1, 16}, {80, 1, 12}, {96, 1, 10}, {112, 1, 9}, {128, 1, 8},
		{144, 1, 7}, {160, 1, 6}, {176, 2, 11}, {192, 1, 5}, {208, 2, 9}, {256, 1, 4},
		{288, 2, 7}, {320, 1, 3}, {384, 3, 8}, {384, 2, 5}, {416, 3, 7}, {512, 1, 2},
	})
}

// 5.1: what is handed in wrong: both numbers at their edges, and far outside.
func TestMakeWrong(t *testing.T) {
	mosts := []int{64, 128, 4096, 65536}
	for _, page := range []int{math.MinInt, math.MinInt + 1, -65536, -8192, -1024, -1, 0, 1, 2, 512, 1023, 1025, 1536, 2047, 2049, 8000, 8191, 8193, 65535, 65537, 131072, 1 << 61, 1 << 62, math.MaxInt - 1, math.MaxInt} {
		for _, most := range mosts {
			wantRefused(t, page, most)
		}
	}
	eachRight(func(page, most int) {
		for _, wrong := range []int{math.MinInt, -most, -64, -1, 0, 1, 8, 32, 63, 65, 96, most - 1, most + 1, most + most/2, 4*page - 1, 4*page + 1, 8 * page, 1 << 62, math.MaxInt} {
			wantRefused(t, page, wrong)
		}
		wantRefused(t, page-1, most)
		wantRefused(t, page+1, most)
	})
}

// 5.1: no number up to the greatest page is one but the powers of two.
func TestMakePages(t *testing.T) {
	for page := -70000; page <= 140000; page++ {
		right := page >= 1024 && page <= 65536 && page&(page-1) == 0
		if _, e := Make(page, 64); (e == api.OK) != right {
			t.Errorf("Make(%d, 64): %d", page, e)
		}
	}
}

// 5.1: no number is a most but the powers of two from 64 to 4 pages.
func TestMakeMosts(t *testing.T) {
	for most := -10000; most <= 10000; most++ {
		right := most >= 64 && most <= 4096 && most&(most-1) == 0
		if _, e := Make(1024, most); (e == api.OK) != right {
			t.Errorf("Make(1024, %d): %d", most, e)
		}
	}
}

// 5.2, 5.3: each size there is, against the Table.
func TestOfAndRound(t *testing.T) {
	table := Table()
	want := 1
	for size := 0; size <= 32768; size++ {
		if size > table[want].Size {
			want++
		}
		if got, e := Of(size); got != want || e != api.OK {
			t.Fatalf("Of(%d): %d, %d; want %d", size, got, e, want)
		}
		if got, e := Round(uint64(size)); got != uint64(table[want].Size) || e != api.OK {
			t.Fatalf("Round(%d): %d, %d; want %d", size, got, e, table[want].Size)
		}
		if table[want].Size < size || want > 1 && table[want-1].Size >= size {
			t.Fatalf("size %d: class %d, of %d, is not the first that does", size, want, table[want].Size)
		}
	}
	if want != 67 {
		t.Errorf("the class of 32768 is %d", want)
	}
}

// 5.2
func TestOfEdges(t *testing.T) {
	for _, x := range []struct {
		size, want int
		code       api.Errno
	}{
		{0, 1, api.OK}, {1, 1, api.OK}, {8, 1, api.OK}, {9, 2, api.OK}, {16, 2, api.OK}, {17, 3, api.OK}, {32, 4, api.OK}, {33, 5, api.OK}, {48, 5, api.OK}, {1024, 32, api.OK}, {1025, 33, api.OK}, {8192, 51, api.OK}, {8193, 52, api.OK}, {28672, 66, api.OK}, {28673, 67, api.OK}, {32767, 67, api.OK}, {32768, 67, api.OK},
		{32769, 0, api.ErrArg}, {40960, 0, api.ErrArg}, {1 << 32, 0, api.ErrArg}, {math.MaxInt, 0, api.ErrArg},
		{-1, 0, api.ErrArg}, {-8, 0, api.ErrArg}, {-32768, 0, api.ErrArg}, {math.MinInt, 0, api.ErrArg},
	} {
		if got, e := Of(x.size); got != x.want || e != x.code {
			t.Errorf("Of(%d): %d, %d; want %d, %d", x.size, got, e, x.want, x.code)
		}
	}
}

// 5.2
func TestRoundEdges(t *testing.T) {
	for _, x := range []struct {
		size, want uint64
		code       api.Errno
	}{
		{0, 8, api.OK}, {1, 8, api.OK}, {8, 8, api.OK}, {9, 16, api.OK}, {33, 48, api.OK}, {8193, 9472, api.OK}, {24577, 27264, api.OK}, {28672, 28672, api.OK}, {28673, 32768, api.OK}, {32767, 32768, api.OK}, {32768, 32768, api.OK},
		{32769, 40960, api.OK}, {40959, 40960, api.OK}, {40960, 40960, api.OK}, {40961, 49152, api.OK}, {1 << 32, 1 << 32, api.OK}, {1<<32 + 1, 1<<32 + 8192, api.OK},
		{1<<40 - 8192, 1<<40 - 8192, api.OK}, {1<<40 - 8191, 1 << 40, api.OK}, {1<<40 - 1, 1 << 40, api.OK}, {1 << 40, 1 << 40, api.OK},
		{1<<40 + 1, 0, api.ErrLong}, {1<<40 + 8192, 0, api.ErrLong}, {1 << 63, 0, api.ErrLong}, {1<<63 + 8, 0, api.ErrLong}, {math.MaxUint64 - 8191, 0, api.ErrLong}, {math.MaxUint64, 0, api.ErrLong},
	} {
		if got, e := Round(x.size); got != x.want || e != x.code {
			t.Errorf("Round(%d): %d, %d; want %d, %d", x.size, got, e, x.want, x.code)
		}
	}
}

// 5.2: multiples of 8192 and what is beside them, above the greatest class.
func TestRoundPages(t *testing.T) {
	for pages := uint64(5); pages <= 1<<27; pages += 1 + pages/50 {
		bytes := pages * 8192
		for _, size := range []uint64{bytes - 8191, bytes - 8190, bytes - 4096, bytes - 1, bytes} {
			if got, e := Round(size); got != bytes || e != api.OK {
				t.Fatalf("Round(%d): %d, %d; want %d", size, got, e, bytes)
			}
		}
	}
}

func checkFollows(t *testing.T, page, most int) {
	t.Helper()
	l := made(t, page, most)
	for i, c := range l[1:] {
		bytes := c.Pages * page
		switch {
		case c.Size < l[i].Size:
			t.Errorf("Make(%d, %d): %v behind %v: sizes fall", page, most, c, l[i])
		case c.Size%8 != 0:
			t.Errorf("Make(%d, %d): %v: no multiple of 8", page, most, c)
		case c.Slots < 1 || bytes-c.Slots*c.Size < 0 || bytes-c.Slots*c.Size >= c.Size:
			t.Errorf("Make(%d, %d): %v: not as many slots as there is room for", page, most, c)
		case 8*(bytes-c.Slots*c.Size) > bytes:
			t.Errorf("Make(%d, %d): %v: leaves too much over", page, most, c)
		}
	}
	if last := l[len(l)-1]; last.Size != most {
		t.Errorf("Make(%d, %d): the last is %v", page, most, last)
	}
}

// 5.3
func TestWhatFollows(t *testing.T) {
	eachRight(func(page, most int) { checkFollows(t, page, most) })
	table := Table()
	for i := 1; i < len(table); i++ {
		if table[i].Size <= table[i-1].Size {
			t.Errorf("Table: class %d, %v, behind %v: sizes do not rise", i, table[i], table[i-1])
		}
	}
	if len(table) != 68 || table[67].Size != 32768 {
		t.Errorf("Table: %d classes, the last is %v", len(table), table[len(table)-1])
	}
}

// 5.1: Magic tells the slot of each byte of a span of the Table.
func TestMagicDivides(t *testing.T) {
	for i, c := range Table()[1:] {
		for at := range uint32(c.Pages * 8192) {
			if got := num.Quot(at, c.Magic); got != at/uint32(c.Size) {
				t.Fatalf("class %d: byte %d in slot %d", i+1, at, got)
			}
		}
	}
}

// spoil writes into all of a list, its spare room too.
func spoil(l []api.Class) {
	l = l[:cap(l)]
	for i := range l {
		l[i] = api.Class{Size: -1, Pages: -1, Slots: -1, Magic: 1}
	}
}

// R3: lists that are answered share nothing, and are not kept.
func TestListsAreNew(t *testing.T) {
	first, second, third := Table(), Table(), made(t, 8192, 32768)
	spoil(second)
	wantRows(t, "a Table, another one changed", first, tableRows())
	wantRows(t, "Make, a Table changed", third, tableRows())
	spoil(third)
	wantRows(t, "a Table, what Make answered changed", first, tableRows())
	spoil(first)
	wantRows(t, "the Table again", Table(), tableRows())
	wantRows(t, "Make again", made(t, 8192, 32768), tableRows())
	if got, e := Of(33); got != 5 || e != api.OK {
		t.Errorf("Of(33): %d, %d", got, e)
	}
	if got, e := Round(33); got != 48 || e != api.OK {
		t.Errorf("Round(33): %d, %d", got, e)
	}
}

// R4: nothing hangs on what was asked before.
func TestNothingIsKept(t *testing.T) {
	eachRight(func(page, most int) {
		before := made(t, page, most)
		wantRefused(t, page, 0)
		Round(math.MaxUint64)
		Of(-1)
		Of(most)
		made(t, 65536, 64)
		made(t, 1024, 4096)
		if after := made(t, page, most); !slices.Equal(before, after) {
			t.Errorf("Make(%d, %d): %v, then %v", page, most, before, after)
		}
	})
	wantRows(t, "Table, behind all of these", Table(), tableRows())
}

// R1, R2: every number of the whole range ends with an answer, or with an error and noughts.
func TestAllNumbers(t *testing.T) {
	numbers := []int{0, math.MinInt, math.MaxInt}
	for k := range 63 {
		p := 1 << k
		numbers = append(numbers, p-1, p, p+1, -p, -p-1, p+p/2)
	}
	for _, n := range numbers {
		for _, most := range numbers {
			if l, e := Make(n, most); (e != api.OK && e != api.ErrArg) || (e == api.OK) != (len(l) > 0) {
				t.Errorf("Make(%d, %d): %v, %d", n, most, l, e)
			}
		}
		if c, e := Of(n); (e != api.OK && e != api.ErrArg) || (e == api.OK) != (c > 0) {
			t.Errorf("Of(%d): %d, %d", n, c, e)
		}
		if r, e := Round(uint64(n)); (e != api.OK && e != api.ErrLong) || (e == api.OK) != (r > 0) || e == api.OK && r < uint64(n) {
			t.Errorf("Round(%d): %d, %d", uint64(n), r, e)
		}
	}
}

// Ways: no package-level table.
func TestNoPackageLevelTable(t *testing.T) {
	files, err := filepath.Glob("*.go")
	if err != nil {
		t.Fatal(err)
	}
	looked := 0
	for _, name := range files {
		if strings.HasSuffix(name, "_test.go") {
			continue
		}
		looked++
		file, err := parser.ParseFile(token.NewFileSet(), name, nil, 0)
		if err != nil {
			t.Fatal(err)
		}
		for _, d := range file.Decls {
			if g, ok := d.(*ast.GenDecl); ok && g.Tok == token.VAR {
				t.Errorf("%s has a variable at package level", name)
			}
		}
	}
	if looked == 0 {
		t.Error("no file was looked at")
	}
}
