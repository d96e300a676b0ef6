package show

import (
	"strconv"
	"strings"

	"calender/addr"
	"calender/api"
	"calender/bre"
	"calender/ere"
	"calender/piece"
	"calender/script"
	"calender/subst"
	"calender/trans"
)

// delimiter is what ends all pieces that are told.
const delimiter = '/'

// pattern is the number of one.
type pattern int

// text is what a, i and c say.
type text string

// list is bytes that become others, or what they become.
type list string

// writer tells things of x, with patterns that are basic ones or extended ones.
type writer struct {
	x   script.Script
	ext bool
}

// when is things, if it is so, and no things else.
func when(is bool, things ...any) []any {
	if !is {
		return nil
	}
	return things
}

// behind is what stands behind the byte that c is.
func (w writer) behind(c script.Cmd) []any {
	switch c.Op {
	case 'a', 'i', 'c':
		return []any{"\\\n", text(c.Text)}
	case 'b', 't', 'T':
		return when(c.To != len(w.x.Cmds), label(c.To))
	case 'l':
		return when(c.N != -1, " ", c.N)
	case 'q', 'Q':
		return when(c.N != 0, " ", c.N)
	case 'r', 'w':
		return []any{" ", c.Text}
	case 's':
		return []any{"/", pattern(c.Pat), "/", c.Parts, "/", w.flags(c)}
	case 'y':
		return []any{"/", list(c.Text), "/", list(c.Into), "/"}
	}
	return nil
}

// flags are those that stand behind a replacement.
func (w writer) flags(c script.Cmd) []any {
	return []any{
		when(c.All, "g"), when(c.Print, "p"), when(c.N != 1, c.N),
		w.fold(pattern(c.Pat)), when(c.Text != "", "w ", c.Text),
	}
}

// fold is what stands behind a pattern in which great and small letters are the same.
func (w writer) fold(n pattern) []any {
	return when(w.has(n) && w.x.Pats[n].Fold, "I")
}

// has tells whether there is a pattern n.
func (w writer) has(n pattern) bool { return n >= 0 && int(n) < len(w.x.Pats) }

// tell is the texts of all things, one behind the other; ErrArg, if one has none.
func (w writer) tell(things ...any) (string, api.Errno) {
	var all strings.Builder
	for _, thing := range things {
		told, e := w.one(thing)
		if e != api.OK {
			return "", api.ErrArg
		}
		all.WriteString(told)
	}
	return all.String(), api.OK
}

// one is the text of one thing.
func (w writer) one(thing any) (string, api.Errno) {
	switch thing := thing.(type) {
	case string:
		return thing, api.OK
	case byte:
		return string([]byte{thing}), api.OK
	case int:
		return strconv.Itoa(thing), api.OK
	case []any:
		return w.tell(thing...)
	case addr.Addr:
		return w.address(thing)
	case pattern:
		return w.pattern(thing)
	case []subst.Part:
		return given(subst.Print(thing))
	case list:
		return given(trans.Print(string(thing)), api.OK)
	case text:
		return piece.Untext(string(thing))
	}
	return "", api.ErrArg
}

// address is the text of a, whatever numbers it has.
func (w writer) address(a addr.Addr) (string, api.Errno) {
	switch a.Kind {
	case addr.Every:
		return w.tell()
	case addr.Number:
		return w.tell(a.N)
	case addr.Last:
		return w.tell("$")
	case addr.Step:
		return w.tell(a.N, "~", a.M)
	case addr.Rx:
		n := pattern(a.N)
		return w.tell("/", n, "/", w.fold(n))
	case addr.Plus:
		return w.tell("+", a.N)
	case addr.Round:
		return w.tell("~", a.N)
	}
	return "", api.ErrArg
}

// pattern is the text of pattern n.
func (w writer) pattern(n pattern) (string, api.Errno) {
	switch {
	case !w.has(n):
		return "", api.ErrArg
	case w.ext:
		return given(ere.Print(w.x.Pats[n].Nodes))
	}
	return given(bre.Print(w.x.Pats[n].Nodes))
}

// given is what told is ahead of a delimiter, unless that has an error.
func given(told string, e api.Errno) (string, api.Errno) {
	if e != api.OK {
		return "", e
	}
	return piece.Give(told, delimiter)
}
