package ere

import (
	"slices"
	"strings"

	"calender/api"
	"calender/bre"
	"calender/rx"
	"calender/set"
)

// maxGroup is the greatest number of a group.
const maxGroup = 9

// atom is one that stands in basic patterns, which are asked about numbers of times, ahead of these.
const atom = "a"

// level is the rows of the whole text, or those of a group that is open: where it begins, and its number.
type level struct {
	place, number int
	// The places of the nodes of the rows that ended, and of the items of the one that is being read.
	rows, items []int
}

// reader reads a text as a pattern, whose nodes it puts one behind the other.
type reader struct {
	s      string
	at     int
	l      []rx.Node
	levels []level
	begun  int
	// isAtom tells whether an atom without a number of times stands directly ahead.
	isAtom bool
}

// readers are what reads that which stands at a place, by its first byte, and tells what is wrong with it there; all other bytes are read as themselves.
func readers() map[byte]func(*reader) api.Errno {
	return map[byte]func(*reader) api.Errno{
		'^':  (*reader).begin,
		'$':  (*reader).end,
		'.':  (*reader).dot,
		'[':  (*reader).list,
		'(':  (*reader).open,
		')':  (*reader).shut,
		'|':  (*reader).bar,
		'\\': (*reader).escape,
		'*':  (*reader).star,
		'+':  (*reader).plus,
		'?':  (*reader).mark,
		'{':  (*reader).brace,
	}
}

// top is the innermost level.
func (r *reader) top() *level { return &r.levels[len(r.levels)-1] }

// put is the place of x, which is put behind all other nodes.
func (r *reader) put(x rx.Node) int {
	// One more than there may be tells that there are too many: what is behind it is looked at, but not kept.
	if len(r.l) <= api.MaxNodes {
		r.l = append(r.l, x)
	}
	return len(r.l) - 1
}

// item puts x, which is what the next n bytes tell, as the next item of its row.
func (r *reader) item(x rx.Node, n int, isAtom bool) api.Errno {
	r.at += n
	r.isAtom = isAtom
	top := r.top()
	top.items = append(top.items, r.put(x))
	return api.OK
}

// bytes puts s as an item.
func (r *reader) bytes(s set.Set, n int) api.Errno {
	return r.item(rx.Node{Kind: rx.Bytes, Set: s}, n, true)
}

func (r *reader) begin() api.Errno { return r.item(rx.Node{Kind: rx.Begin}, 1, false) }

func (r *reader) end() api.Errno { return r.item(rx.Node{Kind: rx.End}, 1, false) }

func (r *reader) dot() api.Errno { return r.bytes(set.Not(set.Set{}), 1) }

func (r *reader) itself() api.Errno { return r.bytes(set.Of(r.s[r.at:r.at+1]), 1) }

func (r *reader) list() api.Errno {
	s, n, e := bre.Bracket(r.s[r.at:])
	if e != api.OK {
		return e
	}
	return r.bytes(s, n)
}

// escape reads a \ and what stands behind it.
func (r *reader) escape() api.Errno {
	var b byte
	if r.at+1 == len(r.s) {
		goto wrong
	}
	b = r.s[r.at+1]
	switch {
	case b == 'n':
		return r.bytes(set.Of("\n"), 2)
	case b == '/' || strings.IndexByte(quoted, b) >= 0:
		return r.bytes(set.Range(b, b), 2)
	case '1' <= b && b <= '9':
		return api.ErrRef
	}
wrong:
	return api.ErrRx
}

// open begins a group.
func (r *reader) open() api.Errno {
	if r.begun == maxGroup {
		return api.ErrParen
	}
	r.begun++
	r.levels = append(r.levels, level{place: r.at, number: r.begun})
	r.at++
	r.isAtom = false
	return api.OK
}

// shut ends a group, which is an item of the level around it.
func (r *reader) shut() api.Errno {
	if len(r.levels) == 1 {
		return api.ErrParen
	}
	if !r.endRow() {
		return api.ErrRx
	}
	group := *r.top()
	r.levels = r.levels[:len(r.levels)-1]
	return r.item(rx.Node{Kind: rx.Group, A: r.chain(rx.Alt, group.rows), N: group.number}, 1, true)
}

// bar ends a row, behind which another one begins.
func (r *reader) bar() api.Errno {
	if !r.endRow() {
		return api.ErrRx
	}
	r.at++
	r.isAtom = false
	return api.OK
}

// endRow ends the row that is being read, and tells whether it has anything.
func (r *reader) endRow() bool {
	top := r.top()
	if len(top.items) == 0 {
		return false
	}
	top.rows = append(top.rows, r.chain(rx.Cat, top.items))
	top.items = nil
	return true
}

// chain puts each of parts together with what follows it, and is the place of the whole.
func (r *reader) chain(kind int, parts []int) int {
	last := len(parts) - 1
	whole := parts[last]
	for _, a := range slices.Backward(parts[:last]) {
		whole = r.put(rx.Node{Kind: kind, A: a, B: whole})
	}
	return whole
}

// times puts a number of times, which the next n bytes tell, over the atom ahead.
func (r *reader) times(n, least, end int) api.Errno {
	if !r.isAtom {
		return api.ErrCount
	}
	r.at += n
	r.isAtom = false
	items := r.top().items
	last := len(items) - 1
	items[last] = r.put(rx.Node{Kind: rx.Times, A: items[last], Min: least, Max: end})
	return api.OK
}

func (r *reader) star() api.Errno { return r.times(1, 0, -1) }

func (r *reader) plus() api.Errno { return r.times(1, 1, -1) }

func (r *reader) mark() api.Errno { return r.times(1, 0, 1) }

// brace reads a number of times that is told by numbers.
func (r *reader) brace() api.Errno {
	told, _, isClosed := strings.Cut(r.s[r.at+len("{"):], "}")
	// Numbers are read as in basic patterns. What is told has no }, so nothing but one number of times fits here.
	basic, _, e := bre.Parse(atom + `\{` + told + `\}`)
	if !isClosed || e != api.OK {
		return api.ErrCount
	}
	x := basic[len(basic)-1]
	return r.times(len("{")+len(told)+len("}"), x.Min, x.Max)
}

// finish puts the whole together at the end of the text, and tells what is wrong there, and where that begins.
func (r *reader) finish() (int, api.Errno) {
	if !r.endRow() {
		return len(r.s), api.ErrRx
	}
	if len(r.levels) > 1 {
		return r.top().place, api.ErrParen
	}
	r.chain(rx.Alt, r.top().rows)
	if len(r.l) > api.MaxNodes {
		return 0, api.ErrWide
	}
	return 0, api.OK
}
