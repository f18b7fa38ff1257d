package sets

// heap has members in a slice; none is ahead of the one at half its place, so that
// the first of all stands at the begin. The members know their places in it: any of
// them can be taken out without a search.
type heap struct {
	list  []*member
	ahead func(a, b *member) bool
	place func(m *member) *int
}

// byBase is an empty heap whose lowest base is the first.
func byBase(place func(m *member) *int) heap {
	return heap{
		ahead: func(a, b *member) bool { return a.base < b.base },
		place: place,
	}
}

// first is nil, if there is none.
func (h *heap) first() *member {
	if len(h.list) == 0 {
		return nil
	}
	return h.list[0]
}

func (h *heap) add(m *member) {
	at := len(h.list)
	h.list = append(h.list, m)
	*h.place(m) = at
	h.rise(at)
}

// remove fills the place of m with the last one, which may belong above it as well
// as below.
func (h *heap) remove(m *member) {
	at, last := *h.place(m), len(h.list)-1
	h.swap(at, last)
	h.list[last] = nil
	h.list = h.list[:last]
	if at < last {
		h.rise(at)
		h.sink(at)
	}
}

func (h *heap) rise(at int) {
	for at > 0 {
		up := (at - 1) / 2
		if !h.ahead(h.list[at], h.list[up]) {
			return
		}
		h.swap(at, up)
		at = up
	}
}

func (h *heap) sink(at int) {
	for {
		next := h.lower(at)
		if next == at {
			return
		}
		h.swap(at, next)
		at = next
	}
}

// lower is which of the two below a place is ahead of it and of the other; the place
// itself, if neither is.
func (h *heap) lower(at int) int {
	best := at
	for k := 2*at + 1; k <= 2*at+2 && k < len(h.list); k++ {
		if h.ahead(h.list[k], h.list[best]) {
			best = k
		}
	}
	return best
}

func (h *heap) swap(i, k int) {
	h.list[i], h.list[k] = h.list[k], h.list[i]
	*h.place(h.list[i]) = i
	*h.place(h.list[k]) = k
}
