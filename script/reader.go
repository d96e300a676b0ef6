package script

import (
	"strings"

	"calender/addr"
	"calender/api"
	"calender/piece"
)

// noPat is the Pat of a command that has none.
const noPat = -1

// quiet is what a script begins by that prints nothing by itself.
const quiet = "#n"

// jump is the number of a command that goes on behind a label, and that label.
type jump struct {
	number int
	label  string
}

// reader reads a text as a script, from left to right.
type reader struct {
	s   string
	ext bool
	at  int
	x   Script
	// places are where the commands of x begin.
	places []int
	// open are the numbers of the blocks that do not end yet.
	open []int
	// labels are the numbers of the commands that stand behind them.
	labels map[string]int
	jumps  []jump
}

// newReader is a reader of s, ahead of its first command.
func newReader(s string, ext bool) *reader {
	r := &reader{s: s, ext: ext, labels: map[string]int{}}
	if s == quiet || strings.HasPrefix(s, quiet+"\n") {
		r.x.Quiet = true
		r.at = len(quiet)
	}
	return r
}

// commands reads all commands, and tells what is wrong, and where the command begins that is.
func (r *reader) commands() (int, api.Errno) {
	table := readers()
	for r.toCommand() {
		place := r.at
		c := Cmd{Pat: noPat}
		if e := r.command(table, &c); e != api.OK {
			return place, e
		}
		// A label is no command of the script.
		if c.Op != ':' {
			r.x.Cmds = append(r.x.Cmds, c)
			r.places = append(r.places, place)
		}
	}
	return 0, api.OK
}

// closeBlocks tells what is wrong with the blocks, when nothing more is to be read.
func (r *reader) closeBlocks() (int, api.Errno) {
	if len(r.open) == 0 {
		return 0, api.OK
	}
	last := r.open[len(r.open)-1]
	return r.places[last], api.ErrBlock
}

// findLabels tells each command that goes on behind a label where that is, and what is wrong with that.
func (r *reader) findLabels() (int, api.Errno) {
	// No label has this name: what names none goes to the end.
	r.labels[""] = len(r.x.Cmds)
	for _, j := range r.jumps {
		to, is := r.labels[j.label]
		if !is {
			return r.places[j.number], api.ErrLabel
		}
		r.x.Cmds[j.number].To = to
	}
	return 0, api.OK
}

// toCommand goes to where the next command begins, and tells whether there is one.
func (r *reader) toCommand() bool {
	for r.at < len(r.s) {
		switch r.s[r.at] {
		case ' ', '\t', '\n', ';':
			r.at++
		case '#':
			// What it says is for readers of the script alone.
			r.word("")
		default:
			return true
		}
	}
	return false
}

// command reads one command, which c becomes.
func (r *reader) command(table map[byte]belongings, c *Cmd) api.Errno {
	var e api.Errno
	if c.R, e = r.addresses(); e != api.OK {
		return e
	}
	c.Op, _ = r.next()
	read, is := table[c.Op]
	switch {
	case !is:
		return api.ErrScript
	case !mayMean(c.Op, c.R):
		return api.ErrAddr
	}
	if e = read(r, c); e != api.OK {
		return e
	}
	if !endsItself(c.Op) && !r.isEnd() {
		return api.ErrScript
	}
	return api.OK
}

// mayMean tells whether op may have the addresses that g has, and be turned, if that is.
func mayMean(op byte, g addr.Range) bool {
	switch op {
	case '}', ':':
		return g == addr.Range{}
	case 'q', 'Q':
		return g.B.Kind == addr.Every
	}
	return true
}

// endsItself tells whether op ends with what belongs to it, whatever stands behind that.
func endsItself(op byte) bool { return strings.IndexByte("{}aic", op) >= 0 }

// isEnd tells whether, behind blanks, stands what may end a command.
func (r *reader) isEnd() bool {
	r.blanks()
	return r.at == len(r.s) || strings.IndexByte("\n;#}", r.s[r.at]) >= 0
}

// next takes a byte, and tells whether there is one.
func (r *reader) next() (byte, bool) {
	if r.at == len(r.s) {
		return 0, false
	}
	r.at++
	return r.s[r.at-1], true
}

// delimiter takes the byte up to which pieces go; where there is none, there is no piece either, and take tells that.
func (r *reader) delimiter() byte {
	d, _ := r.next()
	return d
}

// skip takes head, if what is left begins by it, and tells whether it does.
func (r *reader) skip(head string) bool {
	if !strings.HasPrefix(r.s[r.at:], head) {
		return false
	}
	r.at += len(head)
	return true
}

// blanks takes the blanks that stand here.
func (r *reader) blanks() { r.at = piece.Blanks(r.s, r.at) }

// number takes the number that stands here.
func (r *reader) number() (int, api.Errno) {
	n, at, e := piece.Number(r.s, r.at)
	r.at = at
	return n, e
}

// word takes blanks, and the word behind them, up to one of ends or the end of the line.
func (r *reader) word(ends string) string {
	r.blanks()
	word, at := piece.Word(r.s, r.at, ends)
	r.at = at
	return word
}

// take takes what stands ahead of the delimiter d, and that.
func (r *reader) take(d byte) (string, api.Errno) {
	told, at, e := piece.Take(r.s, r.at, d)
	r.at = at
	return told, e
}
