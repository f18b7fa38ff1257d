package special

import "mallow/api"

// The least and the greatest kind.
const (
	leastKind    = api.Finalizer
	greatestKind = api.Weak
)

// record is one of a list that is linked by rising address, and by rising kind on
// one address. Behind the last one is nil, of which all that is asked here is
// false, so that each way along the list ends there.
type record struct {
	what api.Special
	next *record
}

// comesAhead tells whether a record stands ahead of where one on that address and
// of that kind does.
func (r *record) comesAhead(addr uint64, kind int) bool {
	return r.below(addr) || r.on(addr) && r.what.Kind < kind
}

func (r *record) is(addr uint64, kind int) bool {
	return r.on(addr) && r.what.Kind == kind
}

func (r *record) on(addr uint64) bool {
	return r != nil && r.what.Addr == addr
}

func (r *record) below(addr uint64) bool {
	return r != nil && r.what.Addr < addr
}
