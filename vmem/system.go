package vmem

// next uses up the first one of a list, if there is one.
func next[T any](list *[]T) (T, bool) {
	if len(*list) == 0 {
		var none T
		return none, false
	}
	first := (*list)[0]
	*list = (*list)[1:]
	return first, true
}

// refused asks the system whether it refuses.
func (m *Mem) refused() bool {
	no, _ := next(&m.ahead.Refuse)
	return no
}

// place is where pages are laid out: where the system says, if it will do,
// else behind hint, else anywhere.
func (m *Mem) place(hint, pages uint64) (uint64, bool) {
	if named, ok := next(&m.ahead.Places); ok {
		// A place that will do is the first one not below itself.
		if first, ok := m.rows.free(named, pages); ok && first == named {
			return first, true
		}
	}
	if first, ok := m.rows.free(hint, pages); ok {
		return first, true
	}
	return m.rows.free(0, pages)
}

// fill sets the words of pages that are made ready again to what the system
// left in them.
func (m *Mem) fill(first, end uint64) {
	for page := first; page < end; page++ {
		x, ok := next(&m.ahead.Fill)
		// The others are 0, and there may be very many of them.
		if !ok {
			return
		}
		m.words.fill(page, x)
	}
}
