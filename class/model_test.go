package class

import (
	"slices"
	"testing"

	"mallow/api"
)

// The model goes by 5.1 from the other end: it asks of each number whether it
// is one of the sizes, and puts neighbours together that are alike.

// isSize tells whether a number is a size that comes of adding steps.
func isSize(n int) bool {
	steps := []struct{ upTo, step int }{{32, 8}, {128, 16}, {256, 16}, {512, 32}, {1024, 64}, {2048, 128}}
	for _, s := range steps {
		if n <= s.upTo {
			return n%s.step == 0
		}
	}
	return n%256 == 0
}

// modelBytes is how long a span of slots of a size is.
func modelBytes(page, size int) int {
	for pages := 1; ; pages++ {
		bytes := pages * page
		rest := bytes - bytes/size*size
		if 8*rest <= bytes {
			return bytes
		}
	}
}

// group is what neighbouring sizes have together.
type group struct{ bytes, slots int }

func modelGroups(page, most int) (groups []group, greatest []int) {
	for size := 1; size <= most; size++ {
		if !isSize(size) {
			continue
		}
		bytes := modelBytes(page, size)
		g := group{bytes, bytes / size}
		if n := len(groups); n > 0 && groups[n-1] == g {
			greatest[n-1] = size
			continue
		}
		groups, greatest = append(groups, g), append(greatest, size)
	}
	return groups, greatest
}

func modelMake(page, most int) []api.Class {
	out := []api.Class{{}}
	groups, greatest := modelGroups(page, most)
	for i, g := range groups {
		size := greatest[i]
		for wide := 128; wide*g.slots <= g.bytes; wide += 128 {
			size = max(size, wide)
		}
		magic := uint32((uint64(1)<<32-1)/uint64(size)) + 1
		out = append(out, api.Class{Size: size, Pages: g.bytes / page, Slots: g.bytes / size, Magic: magic})
	}
	return out
}

// eachRight calls for each page and most that are right.
func eachRight(call func(page, most int)) {
	for page := 1024; page <= 65536; page *= 2 {
		for most := 64; most <= 4*page; most *= 2 {
			call(page, most)
		}
	}
}

// 5.1 against the model, with all that can be asked for.
func TestAgainstModel(t *testing.T) {
	asked := 0
	eachRight(func(page, most int) {
		asked++
		want := modelMake(page, most)
		if got := made(t, page, most); !slices.Equal(got, want) {
			t.Errorf("Make(%d, %d): %v; want %v", page, most, got, want)
		}
	})
	if asked != 70 {
		t.Errorf("%d were asked for", asked)
	}
}

// 5.1, 5.2
func TestTableAgainstModel(t *testing.T) {
	if got, want := Table(), modelMake(8192, 32768); !slices.Equal(got, want) {
		t.Errorf("Table: %v; want %v", got, want)
	}
}
