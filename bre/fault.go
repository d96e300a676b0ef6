package bre

import (
	"strings"

	"calender/api"
)

// fault is what is wrong, and the place where it begins.
type fault struct {
	e     api.Errno
	place int
}

// wrong leaves all that is being read, up to faultOf.
func wrong(e api.Errno, place int) { panic(fault{e, place}) }

// faultOf reads, and tells what is wrong in that; a fault of api.OK, if nothing is.
func faultOf(read func()) (f fault) {
	defer func() {
		switch x := recover().(type) {
		case nil:
		case fault:
			f = x
		default:
			// No text leads here: only what a reader itself does wrong, and that must not pass for a pattern.
			panic(x)
		}
	}()
	read()
	return fault{}
}

// text is a text that is read from left to right.
type text struct {
	s  string
	at int
}

// isOver tells whether nothing is left.
func (r *text) isOver() bool { return r.at == len(r.s) }

// ahead tells whether what is left begins by head.
func (r *text) ahead(head string) bool { return strings.HasPrefix(r.s[r.at:], head) }

// skip takes head, if what is left begins by it, and tells whether it does.
func (r *text) skip(head string) bool {
	if !r.ahead(head) {
		return false
	}
	r.at += len(head)
	return true
}
