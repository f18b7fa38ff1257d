package sets

// kind is what spans that are taken for one another have in common.
type kind struct {
	class       int
	noptr, full bool
}

// side has the spans of one generation, each in two heaps: Least asks through all
// kinds, Take in one of them.
type side struct {
	all   heap
	kinds map[kind]*heap // none of them is empty
}

func newSide() side {
	return side{
		all:   byBase(func(m *member) *int { return &m.inAll }),
		kinds: map[kind]*heap{},
	}
}

func (d *side) count() int {
	return len(d.all.list)
}

// firstOf is nil, if there is none of that kind.
func (d *side) firstOf(k kind) *member {
	h := d.kinds[k]
	if h == nil {
		return nil
	}
	return h.first()
}

func (d *side) add(m *member) {
	h := d.kinds[m.kind]
	if h == nil {
		empty := byBase(func(m *member) *int { return &m.inKind })
		h = &empty
		d.kinds[m.kind] = h
	}
	h.add(m)
	d.all.add(m)
}

func (d *side) remove(m *member) {
	h := d.kinds[m.kind]
	h.remove(m)
	if h.first() == nil {
		delete(d.kinds, m.kind)
	}
	d.all.remove(m)
}
