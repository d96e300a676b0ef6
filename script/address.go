package script

import (
	"calender/addr"
	"calender/api"
	"calender/bre"
	"calender/ere"
)

// maxPats is how many patterns a script has at most.
const maxPats = 999

// addresses reads those of a command, and whether they are turned.
func (r *reader) addresses() (addr.Range, api.Errno) {
	var g addr.Range
	var e api.Errno
	if g.A, e = r.first(); e != api.OK {
		return addr.Range{}, e
	}
	r.blanks()
	if g.A.Kind != addr.Every && r.skip(",") {
		r.blanks()
		if g.B, e = r.second(); e != api.OK {
			return addr.Range{}, e
		}
		r.blanks()
	}
	if !addr.May(g) {
		return addr.Range{}, api.ErrAddr
	}
	if r.skip("!") {
		g.Not = true
		r.blanks()
	}
	return g, api.OK
}

// first reads an address, if one stands here: none is of each line.
func (r *reader) first() (addr.Addr, api.Errno) {
	n, e := r.number()
	switch {
	case e == api.OK:
		return r.step(n)
	case e == api.ErrArg:
		return addr.Addr{}, api.ErrAddr
	case r.skip("$"):
		return addr.Addr{Kind: addr.Last}, api.OK
	case r.skip("/"):
		return r.found('/')
	case r.skip(`\`):
		return r.found(r.delimiter())
	}
	return addr.Addr{}, api.OK
}

// second reads the address that has to stand behind another one.
func (r *reader) second() (addr.Addr, api.Errno) {
	switch {
	case r.skip("+"):
		n, e := r.countOf()
		return addr.Addr{Kind: addr.Plus, N: n}, e
	case r.skip("~"):
		n, e := r.countOf()
		return addr.Addr{Kind: addr.Round, N: n}, e
	}
	a, e := r.first()
	if e == api.OK && a.Kind == addr.Every {
		e = api.ErrAddr
	}
	return a, e
}

// step reads what stands behind the number n of an address.
func (r *reader) step(n int) (addr.Addr, api.Errno) {
	if !r.skip("~") {
		return addr.Addr{Kind: addr.Number, N: n}, api.OK
	}
	m, e := r.countOf()
	return addr.Addr{Kind: addr.Step, N: n, M: m}, e
}

// countOf reads a number that has to stand here.
func (r *reader) countOf() (int, api.Errno) {
	n, e := r.number()
	if e != api.OK {
		return 0, api.ErrAddr
	}
	return n, api.OK
}

// found reads a pattern up to d, and whether letters are the same in it.
func (r *reader) found(d byte) (addr.Addr, api.Errno) {
	n, e := r.pattern(d)
	if e != api.OK {
		return addr.Addr{}, e
	}
	r.x.Pats[n].Fold = r.skip("I")
	return addr.Addr{Kind: addr.Rx, N: n}, api.OK
}

// pattern reads a pattern up to d, and tells its number.
func (r *reader) pattern(d byte) (int, api.Errno) {
	told, e := r.take(d)
	if e != api.OK {
		return noPat, e
	}
	parse := bre.Parse
	if r.ext {
		parse = ere.Parse
	}
	nodes, _, e := parse(told)
	if e != api.OK {
		return noPat, e
	}
	n := len(r.x.Pats)
	if n == maxPats {
		return noPat, api.ErrWide
	}
	r.x.Pats = append(r.x.Pats, Pat{Nodes: nodes})
	return n, api.OK
}
