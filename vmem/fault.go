package vmem

import "mallow/api"

// fault is what is panicked with where words cannot be touched.
type fault struct{ code api.Errno }

// guard does some work, and answers the fault in it, if there is one.
func guard(work func()) (code api.Errno) {
	defer func() {
		r := recover()
		if r == nil {
			return
		}
		f, ok := r.(fault)
		// Anything else is no fault of the simulated space, but of this program.
		if !ok {
			panic(r)
		}
		code = f.code
	}()
	work()
	return api.OK
}

// aligned faults, if a number is no multiple of a word's bytes.
func aligned(n uint64) {
	if n%wordBytes != 0 {
		panic(fault{api.ErrAlign})
	}
}

// touch faults, if there is no word at an address, or it is not ready.
func (m *Mem) touch(addr uint64) {
	aligned(addr)
	if m.rows.state(addr/api.PageSize) != api.PageReady {
		panic(fault{api.ErrFault})
	}
}

// touchAll faults, if one of the words of some bytes cannot be touched.
func (m *Mem) touchAll(addr, bytes uint64) {
	aligned(addr)
	aligned(bytes)
	if bytes == 0 {
		return
	}
	// A difference, as the sum of both could wrap round.
	if addr >= api.AddrLimit || bytes > api.AddrLimit-addr {
		panic(fault{api.ErrFault})
	}
	first, last := addr/api.PageSize, (addr+bytes-1)/api.PageSize
	if !allReady(m.rows.parts(first, last+1)) {
		panic(fault{api.ErrFault})
	}
}
