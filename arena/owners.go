package arena

import (
	"iter"

	"mallow/api"
)

// owners tells whose the pages of one arena are. While all of them are one's,
// there is no array: a span may have thousands of arenas.
type owners struct {
	all  int // while each is nil
	each *[api.ChunkPages]int
}

// part is some pages of an arena, by their places in it.
type part struct{ first, end uint64 }

func (o owners) at(place uint64) int {
	if o.each == nil {
		return o.all
	}
	return o.each[place]
}

// set is the owners with a part of the pages made id's; the array is the same one.
func (o owners) set(p part, id int) owners {
	if p.end-p.first == api.ChunkPages {
		return owners{all: id}
	}
	if o.each == nil {
		if o.all == id {
			return o
		}
		o = o.spread()
	}
	fill(o.each[p.first:p.end], id)
	return o
}

// spread is the same owners with an array.
func (o owners) spread() owners {
	each := [api.ChunkPages]int{}
	fill(each[:], o.all)
	return owners{each: &each}
}

func fill(l []int, id int) {
	for i := range l {
		l[i] = id
	}
}

// parts goes through n pages by the chunks that they lie in.
func parts(page, n uint64) iter.Seq2[uint64, part] {
	return func(yield func(uint64, part) bool) {
		for at, end := page, page+n; at < end; {
			first := at % api.ChunkPages
			long := min(api.ChunkPages-first, end-at)
			if !yield(at/api.ChunkPages, part{first, first + long}) {
				return
			}
			at += long
		}
	}
}
