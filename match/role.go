package match

import (
	"calender/rx"
	"calender/span"
)

// role is what a node has to do with groups: bit n of a word is of the group n.
type role struct {
	// asked are the groups of which it may ask what they had ahead of it.
	asked uint16
	// always are those that have a new span behind it, and ever those that may have one.
	always, ever uint16
}

// rolesOf is the role of each node of l.
func rolesOf(l []rx.Node) []role {
	roles := make([]role, len(l))
	// Parts stand ahead of what they are parts of, so theirs are known by then.
	for i, v := range l {
		roles[i] = roleOf(v, roles)
	}
	return roles
}

func roleOf(v rx.Node, roles []role) role {
	switch v.Kind {
	case rx.Ref:
		return role{asked: 1 << v.N}
	case rx.Group:
		a := roles[v.A]
		return role{a.asked, a.always | 1<<v.N, a.ever | 1<<v.N}
	case rx.Cat:
		a, b := roles[v.A], roles[v.B]
		return role{a.asked | b.asked&^a.always, a.always | b.always, a.ever | b.ever}
	case rx.Alt:
		a, b := roles[v.A], roles[v.B]
		return role{a.asked | b.asked, a.always & b.always, a.ever | b.ever}
	case rx.Times:
		a := roles[v.A]
		if v.Min == 0 {
			a.always = 0
		}
		return a
	}
	return role{}
}

// has tells whether group n is in groups.
func has(groups uint16, n int) bool { return groups>>n&1 == 1 }

// only is c with nothing in groups that are not named.
func only(c Caps, groups uint16) Caps {
	for n := range c {
		if !has(groups, n) {
			c[n] = span.None()
		}
	}
	return c
}

// over is c with what d has in its place.
func over(c, d Caps) Caps {
	for n, s := range d {
		if span.May(s) {
			c[n] = s
		}
	}
	return c
}
