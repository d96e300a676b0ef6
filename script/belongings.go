package script

import (
	"strings"

	"calender/api"
	"calender/piece"
	"calender/rx"
	"calender/subst"
	"calender/trans"
)

// maxCode is the greatest number that a stage ends with.
const maxCode = 255

// noWidth is the number of a list that has none.
const noWidth = -1

// belongings reads what belongs to a command.
type belongings func(*reader, *Cmd) api.Errno

// readers are what reads that which belongs to a command, by the byte that this is; there are no other commands.
func readers() map[byte]belongings {
	return map[byte]belongings{
		'{': (*reader).openBlock,
		'}': (*reader).endBlock,
		'=': (*reader).nothing,
		'd': (*reader).nothing,
		'D': (*reader).nothing,
		'g': (*reader).nothing,
		'G': (*reader).nothing,
		'h': (*reader).nothing,
		'H': (*reader).nothing,
		'n': (*reader).nothing,
		'N': (*reader).nothing,
		'p': (*reader).nothing,
		'P': (*reader).nothing,
		'x': (*reader).nothing,
		'a': (*reader).text,
		'i': (*reader).text,
		'c': (*reader).text,
		'b': (*reader).jump,
		't': (*reader).jump,
		'T': (*reader).jump,
		':': (*reader).label,
		'l': (*reader).width,
		'q': (*reader).code,
		'Q': (*reader).code,
		'r': (*reader).file,
		'w': (*reader).file,
		's': (*reader).replace,
		'y': (*reader).swap,
	}
}

func (r *reader) nothing(*Cmd) api.Errno { return api.OK }

// openBlock opens a block, whose end is not known yet.
func (r *reader) openBlock(*Cmd) api.Errno {
	r.open = append(r.open, len(r.x.Cmds))
	return api.OK
}

// endBlock ends the block that was opened last.
func (r *reader) endBlock(c *Cmd) api.Errno {
	last := len(r.open) - 1
	if last < 0 {
		return api.ErrBlock
	}
	c.To = r.open[last]
	r.x.Cmds[c.To].To = len(r.x.Cmds)
	r.open = r.open[:last]
	return api.OK
}

// text reads a text, which takes the line.
func (r *reader) text(c *Cmd) api.Errno {
	r.blanks()
	r.skip("\\\n")
	if r.at == len(r.s) {
		return api.ErrScript
	}
	var e api.Errno
	c.Text, r.at, e = piece.Text(r.s, r.at)
	return e
}

// jump reads the label behind which c goes on; where that is, is known behind all commands.
func (r *reader) jump(*Cmd) api.Errno {
	name, e := r.name()
	r.jumps = append(r.jumps, jump{len(r.x.Cmds), name})
	return e
}

// label reads the label of the command that stands behind it.
func (r *reader) label(*Cmd) api.Errno {
	name, e := r.name()
	if _, isThere := r.labels[name]; name == "" || isThere {
		return api.ErrLabel
	}
	r.labels[name] = len(r.x.Cmds)
	return e
}

// name reads the name of a label, or none, and tells whether it is one word.
func (r *reader) name() (string, api.Errno) {
	name := r.word(";}")
	if strings.ContainsAny(name, " \t") {
		return "", api.ErrLabel
	}
	return name, api.OK
}

// width reads how wide a list is.
func (r *reader) width(c *Cmd) api.Errno { return r.count(c, noWidth, api.MaxNumber) }

// code reads the number that a stage ends with.
func (r *reader) code(c *Cmd) api.Errno { return r.count(c, 0, maxCode) }

// count reads a number up to most; if there is none, it is otherwise.
func (r *reader) count(c *Cmd, otherwise, most int) api.Errno {
	r.blanks()
	n, e := r.number()
	switch {
	case e == api.ErrNone:
		n = otherwise
	case e != api.OK || n > most:
		return api.ErrScript
	}
	c.N = n
	return api.OK
}

// file reads the name of a file, which takes the line.
func (r *reader) file(c *Cmd) api.Errno {
	if c.Text = r.word(""); c.Text == "" {
		return api.ErrScript
	}
	return api.OK
}

// replace reads a pattern, a replacement, and flags.
func (r *reader) replace(c *Cmd) api.Errno {
	d := r.delimiter()
	var e api.Errno
	if c.Pat, e = r.pattern(d); e != api.OK {
		return e
	}
	told, e := r.take(d)
	if e != api.OK {
		return e
	}
	if c.Parts, _, e = subst.Parse(told); e != api.OK {
		return e
	}
	if e = r.flags(c); e != api.OK {
		return e
	}
	c.N = max(c.N, 1)
	if !hasGroups(r.x.Pats[c.Pat].Nodes, subst.Most(c.Parts)) {
		return api.ErrRef
	}
	return api.OK
}

// hasGroups tells whether a replacement of l's finds may have the groups up to most.
func hasGroups(l []rx.Node, most int) bool {
	// Which pattern an empty one stands for is known only when it is played.
	return l[0].Kind == rx.Empty || most <= rx.Groups(l)
}

// flags reads those that stand behind a replacement, up to what is none.
func (r *reader) flags(c *Cmd) api.Errno {
	fold := &r.x.Pats[c.Pat].Fold
	for {
		isFirst := true
		switch {
		case r.skip("g"):
			isFirst = once(&c.All)
		case r.skip("p"):
			isFirst = once(&c.Print)
		case r.skip("I"):
			isFirst = once(fold)
		case r.skip("w"):
			if r.file(c) != api.OK {
				return api.ErrFlag
			}
			// It takes the line, so no flag stands behind it.
			return api.OK
		default:
			n, e := r.number()
			if e == api.ErrNone {
				return api.OK
			}
			isFirst = e == api.OK && n > 0 && c.N == 0
			c.N = n
		}
		if !isFirst {
			return api.ErrFlag
		}
	}
}

// once sets flag, and tells whether it was not set.
func once(flag *bool) bool {
	was := *flag
	*flag = true
	return !was
}

// swap reads two lists of bytes, of which those of one become those of the other.
func (r *reader) swap(c *Cmd) api.Errno {
	d := r.delimiter()
	from, e := r.take(d)
	if e != api.OK {
		return e
	}
	to, e := r.take(d)
	if e != api.OK {
		return e
	}
	if c.Text, _, e = trans.Parse(from); e != api.OK {
		return e
	}
	if c.Into, _, e = trans.Parse(to); e != api.OK {
		return e
	}
	_, e = trans.Make(c.Text, c.Into)
	return e
}
