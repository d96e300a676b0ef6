package bre

import (
	"strings"

	"calender/api"
	"calender/set"
)

// aside are the bytes that Show tells by themselves, each in its place of a list.
const aside = "][\\^-\n"

// quoted are the bytes that a \ makes stand for themselves, and that mean something without it.
const quoted = `.[\*^$`

// Bracket is the set of the list that s begins by, and how many bytes that takes; ErrSet, if there is none.
func Bracket(s string) (set.Set, int, api.Errno) {
	r := text{s: s}
	var all set.Set
	if f := faultOf(func() { all = r.list() }); f.e != api.OK {
		return set.Set{}, 0, f.e
	}
	return all, r.at, api.OK
}

// noSet leaves a list that is none: all of it is what is wrong, and it begins at 0.
func noSet() { wrong(api.ErrSet, 0) }

// list reads all of a list.
func (r *text) list() set.Set {
	if !r.skip("[") {
		noSet()
	}
	isNot := r.skip("^")
	all := r.part(true)
	for !r.skip("]") {
		all = set.Or(all, r.part(false))
	}
	if isNot {
		all = set.Not(all)
	}
	if all == (set.Set{}) {
		noSet()
	}
	return all
}

// part reads a part of a list; a ] is taken as a byte here, since one that ends the list does not get here.
func (r *text) part(isFirst bool) set.Set {
	switch {
	case r.skip("[:"):
		return r.class()
	case r.skip("[="):
		// No - is looked at behind it: that one would have to be the last part, or else is wrong.
		return just(r.closed("=]"))
	case r.ahead("-") && !isFirst && !r.ahead("-]"):
		noSet()
	}
	from := r.one()
	if r.ahead("-]") || !r.skip("-") {
		return just(from)
	}
	to := r.one()
	if from > to {
		noSet()
	}
	return set.Range(from, to)
}

func just(b byte) set.Set { return set.Range(b, b) }

// class reads a name and the end behind it, and tells the class of that name.
func (r *text) class() set.Set {
	name, _, isClosed := strings.Cut(r.s[r.at:], ":]")
	class, is := set.Class(name)
	if !is || !isClosed {
		noSet()
	}
	r.at += len(name) + len(":]")
	return class
}

// one reads a byte such as may begin or end a part with a -.
func (r *text) one() byte {
	switch {
	case r.skip("[."):
		return r.closed(".]")
	case r.skip(`\n`):
		return '\n'
	case r.ahead("[="), r.ahead("[:"):
		noSet()
	}
	return r.next()
}

// closed reads any byte, and end behind it.
func (r *text) closed(end string) byte {
	b := r.next()
	if !r.skip(end) {
		noSet()
	}
	return b
}

// next reads any byte.
func (r *text) next() byte {
	if r.isOver() {
		noSet()
	}
	r.at++
	return r.s[r.at-1]
}

// Show is s as it is written in a pattern; "" of the empty set.
func Show(s set.Set) string {
	switch set.Size(s) {
	case 0:
		return ""
	case 1:
		return showOne(set.Bytes(s))
	case 256:
		return "."
	}
	return "[" + showList(s) + "]"
}

// showOne is the byte b as it is written by itself.
func showOne(b string) string {
	if b == "\n" {
		return `\n`
	}
	if strings.Contains(quoted, b) {
		return `\` + b
	}
	return b
}

// showList is what stands between the ends of the list of s.
func showList(s set.Set) string {
	// A ^ that comes first would mean all others.
	if s == set.Of("^-") {
		return "-^"
	}
	told := only(s, ']', "]") + showRuns(set.Bytes(less(s, set.Of(aside))))
	return told + only(s, '\n', `\n`) + only(s, '[', "[") + only(s, '\\', `\`) + only(s, '^', "^") + only(s, '-', "-")
}

// only is told, if b is in s, and "" else.
func only(s set.Set, b byte, told string) string {
	if !set.Has(s, b) {
		return ""
	}
	return told
}

// less is the bytes of s that are not in t.
func less(s, t set.Set) set.Set { return set.Not(set.Or(set.Not(s), t)) }

// showRuns is t, which rises, with three bytes and more that follow one another told as the first and the last one.
func showRuns(t string) string {
	var told strings.Builder
	for t != "" {
		n := 1
		for n < len(t) && t[n] == t[n-1]+1 {
			n++
		}
		if n < 3 {
			told.WriteString(t[:n])
		} else {
			told.WriteString(t[:1] + "-" + t[n-1:n])
		}
		t = t[n:]
	}
	return told.String()
}
