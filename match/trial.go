package match

import (
	"slices"
	"strings"

	"calender/rx"
	"calender/set"
	"calender/span"
)

// state is where a trial stands: a node, a place, how many times it was done (or the place of its end), and a number for what the groups have that it asks for.
type state [4]int

// trial is a pattern that is tried at a text. What was found of a state is kept: there are as many ways through a pattern as parts of a text to the power of its parts, but few states.
type trial struct {
	l       []rx.Node
	t       string
	roles   []role
	numbers map[[10][2]int]int
	reached map[state]places
	left    map[state]Caps
	// loose tries the same, but its Refs fit all bytes: where it reaches nothing, nothing is reached. There is none, if there are no Refs.
	loose *trial
}

// anything is the kind of a leaf that fits from each place to each one behind it.
const anything = -1

func newTrial(l []rx.Node, t string) *trial {
	x := trialOf(l, t)
	if rx.Refs(l) {
		x.loose = trialOf(loosened(l), t)
	}
	return x
}

func trialOf(l []rx.Node, t string) *trial {
	return &trial{l, t, rolesOf(l), map[[10][2]int]int{}, map[state]places{}, map[state]Caps{}, nil}
}

// loosened is l with anything in the place of each Ref.
func loosened(l []rx.Node) []rx.Node {
	all := slices.Clone(l)
	for i, v := range all {
		if v.Kind == rx.Ref {
			all[i] = rx.Node{Kind: anything}
		}
	}
	return all
}

// all are the places that the whole reaches from i.
func (x *trial) all(i int) places {
	found := newPlaces(len(x.t))
	x.goOn(found, len(x.l)-1, i, 0, func(int) Caps { return None() })
	return found
}

// whole tells what the whole leaves from i to j, and true; None and false, if it does not fit.
func (x *trial) whole(i, j int) (Caps, bool) {
	if j < i || !x.all(i).has(j) {
		return None(), false
	}
	c := x.leave(len(x.l)-1, i, j, None())
	c[0], _ = span.Of(i, j)
	return c, true
}

// stateOf is that of node n at place p: two of which all is the same but what nobody asks for are one.
func (x *trial) stateOf(n, p, q int, had Caps) state {
	asked := x.roles[n].asked
	if asked == 0 {
		return state{n, p, q, 0}
	}
	var parts [10][2]int
	for g := range parts {
		if has(asked, g) {
			parts[g] = [2]int{span.From(had[g]), span.To(had[g])}
		}
	}
	if x.numbers[parts] == 0 {
		x.numbers[parts] = len(x.numbers) + 1
	}
	return state{n, p, q, x.numbers[parts]}
}

// ends are the places that node n reaches from p, with c times of it behind, and what groups had there.
func (x *trial) ends(n, p, c int, had Caps) places {
	if x.isRun(n) {
		found := newPlaces(len(x.t))
		x.reach(found, n, p, c, had)
		return found
	}
	at := x.stateOf(n, p, c, had)
	found, is := x.reached[at]
	if !is {
		found = newPlaces(len(x.t))
		x.reach(found, n, p, c, had)
		x.reached[at] = found
	}
	return found
}

// add puts ends of node n. Those of a run are found sooner than it could be kept that they were.
func (x *trial) add(found places, n, p, c int, had Caps) {
	if x.isRun(n) {
		x.reach(found, n, p, c, had)
		return
	}
	found.join(x.ends(n, p, c, had))
}

// goOn adds ends of node n from k on, with what was left there; that is asked for only if there may be a way on at all.
func (x *trial) goOn(found places, n, k, c int, left func(k int) Caps) {
	if x.loose == nil || x.loose.ends(n, k, c, None()).from(k) >= 0 {
		x.add(found, n, k, c, left(k))
	}
}

// isRun tells whether node n is a leaf, or times of a set of bytes.
func (x *trial) isRun(n int) bool {
	switch v := x.l[n]; v.Kind {
	case rx.Cat, rx.Alt, rx.Group:
		return false
	case rx.Times:
		return x.l[v.A].Kind == rx.Bytes
	}
	return true
}

// reach finds the ends of node n.
func (x *trial) reach(found places, n, p, c int, had Caps) {
	switch v := x.l[n]; v.Kind {
	case rx.Group:
		x.add(found, v.A, p, 0, had)
	case rx.Alt:
		x.add(found, v.A, p, 0, had)
		x.add(found, v.B, p, 0, had)
	case rx.Cat:
		left := x.leaver(v.A, v.B, p, had)
		parts := x.ends(v.A, p, 0, had)
		for k := parts.from(p); k >= 0; k = parts.from(k + 1) {
			x.goOn(found, v.B, k, 0, left)
		}
	case rx.Times:
		if x.isRun(n) {
			x.run(found, v, p)
		} else {
			x.again(found, n, p, c, had)
		}
	case anything:
		for k := p; k <= len(x.t); k++ {
			found.put(k)
		}
	default:
		if width, fits := x.leaf(v, p, had); fits {
			found.put(p + width)
		}
	}
}

// again finds the ends of node n, a Times, by one more time of its part, and all behind that.
func (x *trial) again(found places, n, p, c int, had Caps) {
	v := x.l[n]
	parts := x.ends(v.A, p, 0, had)
	if c >= v.Min || parts.has(p) {
		found.put(p)
	}
	if c == v.Max {
		return
	}
	left := x.leaver(v.A, n, p, had)
	for k := parts.from(p + 1); k >= 0; k = parts.from(k + 1) {
		x.goOn(found, n, k, oneMore(v, c), left)
	}
}

// run finds the ends of v, times of a set of bytes.
func (x *trial) run(found places, v rx.Node, p int) {
	bytes := x.l[v.A].Set
	for c := 0; ; c++ {
		if c >= v.Min {
			found.put(p)
		}
		if c == v.Max || p == len(x.t) || !set.Has(bytes, x.t[p]) {
			return
		}
		p++
	}
}

// leaf tells whether v fits from p on, and how many bytes it takes.
func (x *trial) leaf(v rx.Node, p int, had Caps) (int, bool) {
	switch v.Kind {
	case rx.Empty:
		return 0, true
	case rx.Bytes:
		return 1, p < len(x.t) && set.Has(v.Set, x.t[p])
	case rx.Begin:
		return 0, p == 0
	case rx.End:
		return 0, p == len(x.t)
	case rx.Ref:
		was := had[v.N]
		return span.Len(was), span.May(was) && strings.HasPrefix(x.t[p:], span.Cut(x.t, was))
	}
	return 0, false
}

// oneMore is one time more than c; without a greatest number none above the least one differs from that.
func oneMore(v rx.Node, c int) int {
	if v.Max == -1 {
		return min(c+1, v.Min)
	}
	return c + 1
}

// leaver tells what groups have for node m, behind node a, which fits from p to a place.
func (x *trial) leaver(a, m, p int, had Caps) func(k int) Caps {
	// Walking through a is dear: it is done only if m asks for what a leaves.
	if x.roles[a].ever&x.roles[m].asked == 0 {
		return func(int) Caps { return had }
	}
	return func(k int) Caps { return x.leave(a, p, k, had) }
}

// leave is what groups have behind node n, which fits from p to j, if they had that ahead of it.
func (x *trial) leave(n, p, j int, had Caps) Caps {
	if x.roles[n].ever == 0 {
		return had
	}
	at := x.stateOf(n, p, j, had)
	own, is := x.left[at]
	if !is {
		own = x.walk(n, p, j, only(had, x.roles[n].asked))
		x.left[at] = own
	}
	return over(had, own)
}

// walk is what node n leaves, by way of its parts.
func (x *trial) walk(n, p, j int, had Caps) Caps {
	switch v := x.l[n]; v.Kind {
	case rx.Group:
		had = x.leave(v.A, p, j, had)
		had[v.N], _ = span.Of(p, j)
	case rx.Alt:
		if x.ends(v.A, p, 0, had).has(j) {
			return x.leave(v.A, p, j, had)
		}
		return x.leave(v.B, p, j, had)
	case rx.Cat:
		return x.both(v, p, j, had)
	case rx.Times:
		return x.repeat(n, p, j, had)
	}
	return had
}

// both is what v, a Cat, leaves: its first part takes as many bytes as it can.
func (x *trial) both(v rx.Node, p, j int, had Caps) Caps {
	left := x.leaver(v.A, v.B, p, had)
	parts := x.ends(v.A, p, 0, had)
	for k := parts.upTo(j); k >= p; k = parts.upTo(k - 1) {
		if x.ends(v.B, k, 0, left(k)).has(j) {
			return x.leave(v.B, k, j, x.leave(v.A, p, k, had))
		}
	}
	return had
}

// repeat is what node n, a Times, leaves: each time of its part takes as many bytes as it can, and one at least.
func (x *trial) repeat(n, p, j int, had Caps) Caps {
	v := x.l[n]
	c := 0
times:
	for p < j {
		left := x.leaver(v.A, n, p, had)
		parts := x.ends(v.A, p, 0, had)
		for k := parts.upTo(j); k > p; k = parts.upTo(k - 1) {
			if x.ends(n, k, oneMore(v, c), left(k)).has(j) {
				had = x.leave(v.A, p, k, had)
				p, c = k, oneMore(v, c)
				continue times
			}
		}
		// It fits to j, so this is never reached; but a loop that cannot go on is left.
		break
	}
	if c < v.Min {
		return x.leave(v.A, j, j, had)
	}
	return had
}
