package rx

import (
	"fmt"
	"slices"
	"strings"
	"testing"

	"calender/api"
	"calender/set"
)

// leaf is the pattern of one node.
func leaf(x Node) []Node { return []Node{x} }

// byteOf is the pattern of the bytes of s.
func byteOf(s string) []Node { return leaf(Node{Kind: Bytes, Set: set.Of(s)}) }

// over is the nodes of a, and x over them.
func over(x Node, a []Node) []Node {
	x.A = len(a) - 1
	return append(slices.Clone(a), x)
}

// two is the nodes of a and of b, one behind the other, and x over both.
func two(x Node, a, b []Node) []Node {
	l := slices.Clone(a)
	for _, y := range b {
		switch y.Kind {
		case Cat, Alt:
			y.A += len(a)
			y.B += len(a)
		case Times, Group:
			y.A += len(a)
		}
		l = append(l, y)
	}
	x.A = len(a) - 1
	x.B = len(l) - 1
	return append(l, x)
}

func cat(a, b []Node) []Node          { return two(Node{Kind: Cat}, a, b) }
func alt(a, b []Node) []Node          { return two(Node{Kind: Alt}, a, b) }
func times(m, n int, a []Node) []Node { return over(Node{Kind: Times, Min: m, Max: n}, a) }
func group(n int, a []Node) []Node    { return over(Node{Kind: Group, N: n}, a) }
func ref(n int) []Node                { return leaf(Node{Kind: Ref, N: n}) }

// kind is the kind of the whole of l.
func kind(l []Node) int { return l[len(l)-1].Kind }

// row is a Cat of n times the byte a.
func row(n int) []Node {
	l := byteOf("a")
	for range n - 1 {
		l = cat(byteOf("a"), l)
	}
	return l
}

// nested is n groups, one in the other.
func nested(n int) []Node {
	l := byteOf("a")
	for i := n; i > 0; i-- {
		l = group(i, l)
	}
	return l
}

// groups is a Cat of n groups, one behind the other.
func groups(n int) []Node {
	l := group(n, byteOf("a"))
	for i := n - 1; i > 0; i-- {
		l = cat(group(i, byteOf("a")), l)
	}
	return l
}

// pair is a pattern and its text.
type pair struct {
	l    []Node
	text string
}

// told are patterns and their texts.
func told() []pair {
	a, b := byteOf("a"), byteOf("b")
	full := leaf(Node{Kind: Bytes, Set: set.Range(0, 255)})
	var bytes strings.Builder
	for i := range 256 {
		fmt.Fprintf(&bytes, "%02x", i)
	}
	return []pair{
		{leaf(Node{Kind: Empty}), "e"},
		{leaf(Node{Kind: Begin}), "^"},
		{leaf(Node{Kind: End}), "$"},
		{a, "[61]"},
		{byteOf("zJo\x00\xff\n"), "[000a4a6f7aff]"},
		{full, "[" + bytes.String() + "]"},
		{cat(a, times(0, -1, b)), "&[61]*0,-1;[62]"},
		{cat(a, cat(b, a)), "&[61]&[62][61]"},
		{alt(a, b), "|[61][62]"},
		{alt(cat(a, b), alt(b, a)), "|&[61][62]|[62][61]"},
		{alt(leaf(Node{Kind: Begin}), leaf(Node{Kind: End})), "|^$"},
		{cat(leaf(Node{Kind: End}), leaf(Node{Kind: Begin})), "&$^"},
		{times(0, 1, a), "*0,1;[61]"},
		{times(1, 1, a), "*1,1;[61]"},
		{times(255, 255, a), "*255,255;[61]"},
		{times(255, -1, a), "*255,-1;[61]"},
		{times(0, 255, a), "*0,255;[61]"},
		{times(10, 100, a), "*10,100;[61]"},
		{group(1, a), "([61])"},
		{group(1, alt(a, cat(a, b))), "(|[61]&[61][62])"},
		{group(1, leaf(Node{Kind: Begin})), "(^)"},
		{times(0, -1, group(1, a)), "*0,-1;([61])"},
		{cat(group(1, a), ref(1)), `&([61])\1`},
		{cat(group(1, a), times(2, 3, ref(1))), `&([61])*2,3;\1`},
		{alt(group(1, a), ref(1)), `|([61])\1`},
		{group(1, cat(group(2, a), ref(2))), `(&([61])\2)`},
		{cat(group(1, group(2, a)), cat(group(3, b), cat(ref(3), cat(ref(2), ref(1))))), `&(([61]))&([62])&\3&\2\1`},
		{cat(nested(9), ref(9)), `&((((((((([61])))))))))\9`},
	}
}

// rightOnes are the patterns of told, and greater ones.
func rightOnes() (l [][]Node) {
	for _, x := range told() {
		l = append(l, x.l)
	}
	return append(l, nested(9), groups(9), row(60), times120())
}

// times120 is a pattern of MaxNodes nodes.
func times120() []Node { return cat(times(0, -1, byteOf("b")), row(59)) }

func TestP3_1MayOfRightOnes(t *testing.T) {
	for _, l := range rightOnes() {
		if !May(l) {
			t.Errorf("%v", l)
		}
	}
}

// heads are nodes that are tried at each place of short lists.
func heads(places int) []Node {
	l := []Node{
		{}, {Kind: Bytes, Set: set.Of("a")}, {Kind: Begin}, {Kind: End}, {Kind: Ref, N: 1}, {Kind: Ref, N: 2},
	}
	for a := range places {
		l = append(l, Node{Kind: Times, A: a, Max: -1}, Node{Kind: Group, A: a, N: 1}, Node{Kind: Group, A: a, N: 2})
		for b := range places {
			l = append(l, Node{Kind: Cat, A: a, B: b}, Node{Kind: Alt, A: a, B: b})
		}
	}
	return l
}

// tree is a pattern as it is put together from its parts, with the groups that began and ended in it.
type tree struct {
	nodes []Node
	begun int
	ended string
}

// trees are all patterns of n nodes but Empty, with heads' leaves, behind begun groups of which those of ended ended.
func trees(n, begun int, ended string) (l []tree) {
	put := func(nodes []Node, begun int, ended string) { l = append(l, tree{nodes, begun, ended}) }
	if n == 1 {
		put(byteOf("a"), begun, ended)
		put(leaf(Node{Kind: Begin}), begun, ended)
		put(leaf(Node{Kind: End}), begun, ended)
		for i := 1; i <= 2; i++ {
			if strings.Contains(ended, fmt.Sprint(i)) {
				put(ref(i), begun, ended)
			}
		}
		return l
	}
	if n > 1 {
		for _, a := range trees(n-1, begun, ended) {
			if k := kind(a.nodes); k == Bytes || k == Group || k == Ref {
				put(times(0, -1, a.nodes), a.begun, a.ended)
			}
		}
	}
	if n > 1 && begun < 2 {
		for _, a := range trees(n-1, begun+1, ended) {
			put(group(begun+1, a.nodes), a.begun, a.ended+fmt.Sprint(begun+1))
		}
	}
	for i := 1; i < n-1; i++ {
		for _, a := range trees(i, begun, ended) {
			for _, b := range trees(n-1-i, a.begun, a.ended) {
				if kind(a.nodes) != Alt {
					put(alt(a.nodes, b.nodes), b.begun, b.ended)
				}
				if kind(a.nodes) != Alt && kind(a.nodes) != Cat && kind(b.nodes) != Alt {
					put(cat(a.nodes, b.nodes), b.begun, b.ended)
				}
			}
		}
	}
	return l
}

func TestP3_1MayOfAllShortOnes(t *testing.T) {
	is := map[string]bool{}
	for n := 1; n <= 4; n++ {
		for _, x := range trees(n, 0, "") {
			is[fmt.Sprint(x.nodes)] = true
		}
	}
	is[fmt.Sprint(leaf(Node{}))] = true
	found := 0
	var try func(l []Node, n int)
	try = func(l []Node, n int) {
		if len(l) < n {
			for _, x := range heads(n) {
				try(append(l[:len(l):len(l)], x), n)
			}
			return
		}
		if !May(l) {
			return
		}
		// All lists differ: if each that may be is one of these, and they are as many, none is missed.
		found++
		if !is[fmt.Sprint(l)] {
			t.Errorf("%v may not be", l)
		}
	}
	for n := range 5 {
		try(nil, n)
	}
	if found != len(is) {
		t.Errorf("%d of %d", found, len(is))
	}
}

func TestP3_1Nodes(t *testing.T) {
	if May(nil) || May([]Node{}) || May(row(61)) || May(row(200)) || !May(row(60)) {
		t.Error("none, and too many")
	}
	if l := times120(); len(l) != api.MaxNodes || !May(l) {
		t.Error("120", len(l))
	}
	if l := cat(times(0, -1, byteOf("b")), cat(times(0, -1, byteOf("b")), row(58))); len(l) != api.MaxNodes+1 || May(l) {
		t.Error("121", len(l))
	}
}

func TestP3_1Groups(t *testing.T) {
	for n := 1; n <= 12; n++ {
		if May(nested(n)) != (n <= 9) || May(groups(n)) != (n <= 9) {
			t.Error(n)
		}
	}
	a := byteOf("a")
	for _, l := range [][]Node{
		group(0, a), group(2, a), group(-1, a), group(10, a),
		cat(group(2, a), group(1, a)), cat(group(1, a), group(1, a)), cat(group(1, a), group(3, a)),
		alt(group(2, a), group(1, a)), group(2, group(1, a)), group(1, group(1, a)),
		cat(group(1, group(3, a)), group(2, a)),
	} {
		if May(l) {
			t.Error(Text(l), l)
		}
	}
}

func TestP3_1Refs(t *testing.T) {
	a, one := byteOf("a"), group(1, byteOf("a"))
	for _, l := range [][]Node{
		ref(1), ref(0), cat(one, ref(0)), cat(one, ref(2)), cat(one, ref(-1)), cat(one, ref(10)), cat(ref(1), one),
		group(1, ref(1)), group(1, cat(a, ref(1))), group(1, group(2, ref(1))), alt(ref(1), one),
		cat(nested(9), ref(10)), cat(group(1, group(2, a)), ref(3)), group(1, cat(group(2, a), ref(1))),
		cat(times(0, -1, ref(1)), one),
	} {
		if May(l) {
			t.Error(Text(l), l)
		}
	}
}

func TestP3_1Counts(t *testing.T) {
	for m := -2; m <= 258; m++ {
		for n := -3; n <= 258; n++ {
			want := m >= 0 && m <= 255 && (n == -1 || n >= m && n >= 1 && n <= 255)
			if May(times(m, n, byteOf("a"))) != want {
				t.Error(m, n)
			}
		}
	}
}

func TestP3_1Parts(t *testing.T) {
	a, e := byteOf("a"), leaf(Node{})
	for _, l := range [][]Node{
		cat(e, a), cat(a, e), cat(e, e), alt(e, a), alt(a, e), times(0, 1, e), group(1, e),
		cat(cat(a, a), a), cat(alt(a, a), a), cat(a, alt(a, a)), alt(alt(a, a), a),
		times(0, 1, times(0, 1, a)), times(0, 1, cat(a, a)), times(0, 1, alt(a, a)),
		times(0, 1, leaf(Node{Kind: Begin})), times(0, 1, leaf(Node{Kind: End})),
	} {
		if May(l) {
			t.Error(Text(l), l)
		}
	}
}

// fieldsOf are x, each with one field changed to a strange value.
func fieldsOf(x Node) (l []Node) {
	for _, n := range []int{-1 << 63, -2, -1, 1, 3, 256, 1<<63 - 1} {
		y := x
		y.A += n
		l = append(l, y)
		y = x
		y.B += n
		l = append(l, y)
		if x.Kind != Times {
			y = x
			y.Min = n
			l = append(l, y)
			y = x
			y.Max = n
			l = append(l, y)
		}
		if x.Kind != Group && x.Kind != Ref {
			y = x
			y.N = n
			l = append(l, y)
		}
	}
	if x.Kind != Bytes {
		x.Set = set.Of("a")
	} else {
		x.Set = set.Set{}
	}
	return append(l, x)
}

func TestP3_1Fields(t *testing.T) {
	for _, l := range rightOnes() {
		for i, x := range l {
			for _, y := range fieldsOf(x) {
				wrong := slices.Clone(l)
				wrong[i] = y
				if May(wrong) || Groups(wrong) != 0 || Refs(wrong) || Text(wrong) != "" || len(Fold(wrong)) != 0 {
					t.Errorf("%d of %v", i, wrong)
				}
			}
		}
	}
}

func TestP3_1Kinds(t *testing.T) {
	for _, k := range []int{-1 << 63, -1, 9, 10, 1<<63 - 1} {
		if May(leaf(Node{Kind: k})) || May(over(Node{Kind: k}, byteOf("a"))) || May(two(Node{Kind: k}, byteOf("a"), byteOf("b"))) {
			t.Error(k)
		}
	}
	if Empty != 0 || Bytes != 1 || Begin != 2 || End != 3 || Cat != 4 || Alt != 5 || Times != 6 || Group != 7 || Ref != 8 {
		t.Error("the numbers of kinds")
	}
}

func TestP3_1Order(t *testing.T) {
	a, b := Node{Kind: Bytes, Set: set.Of("a")}, Node{Kind: Bytes, Set: set.Of("b")}
	for _, l := range [][]Node{
		{a, b},
		{a, b, {Kind: Cat, A: 1, B: 0}},
		{a, b, {Kind: Cat, A: 1, B: 1}},
		{a, b, {Kind: Cat, A: 0, B: 0}},
		{a, {Kind: Cat, A: 0, B: 0}},
		{a, {Kind: Cat, A: -1, B: 0}},
		{{Kind: Cat, A: -2, B: -1}},
		{{Kind: Cat}},
		{{Kind: Times, Max: -1}},
		{{Kind: Group, N: 1}},
		{{Kind: Group, A: -1, N: 1}},
		{a, b, {Kind: Times, A: 0, Max: -1}},
		{a, b, {Kind: Times, A: 1, Max: -1}},
		{a, b, a, {Kind: Cat, A: 1, B: 2}},
		{a, b, a, {Kind: Cat, A: 0, B: 2}},
		{{Kind: Cat, A: 1, B: 2}, a, b},
		{a, {Kind: Times, A: 2, Max: -1}, b, {Kind: Cat, A: 1, B: 2}},
		{a, {Kind: Group, A: 1, N: 1}},
	} {
		if May(l) {
			t.Error(l)
		}
	}
}

func TestP3_2GroupsAndRefs(t *testing.T) {
	for _, x := range told() {
		if Groups(x.l) != strings.Count(x.text, "(") || Refs(x.l) != strings.Contains(x.text, `\`) {
			t.Error(x.text, Groups(x.l), Refs(x.l))
		}
	}
	for n := range 9 {
		if Groups(nested(n+1)) != n+1 || Groups(groups(n+1)) != n+1 || Refs(nested(n+1)) || !Refs(cat(groups(1), ref(1))) {
			t.Error(n)
		}
	}
	if Groups(nested(10)) != 0 || Groups(nil) != 0 || Refs(ref(1)) || Refs(nil) || Refs(cat(group(1, byteOf("a")), ref(2))) {
		t.Error("of none")
	}
}

func TestP3_2Text(t *testing.T) {
	for _, x := range told() {
		if Text(x.l) != x.text {
			t.Errorf("%q, not %q", Text(x.l), x.text)
		}
	}
	for _, l := range [][]Node{nil, {}, ref(1), row(61), nested(10), byteOf(""), leaf(Node{Kind: 9})} {
		if Text(l) != "" {
			t.Error(Text(l))
		}
	}
	if want := strings.Repeat("&[61]", 59) + "[61]"; Text(row(60)) != want {
		t.Error(Text(row(60)))
	}
}

func TestP3_3Fold(t *testing.T) {
	for _, l := range rightOnes() {
		f := Fold(l)
		if len(f) != len(l) {
			t.Fatal(Text(l), len(f))
		}
		for i, x := range l {
			x.Set = set.Fold(x.Set)
			if f[i] != x {
				t.Error(Text(l), i, f[i])
			}
		}
	}
	if Text(Fold(cat(byteOf("aZ1"), group(1, byteOf("\n"))))) != "&[31415a617a]([0a])" {
		t.Error(Text(Fold(cat(byteOf("aZ1"), group(1, byteOf("\n"))))))
	}
	if len(Fold(nil)) != 0 || len(Fold(ref(1))) != 0 || len(Fold(row(61))) != 0 {
		t.Error("of none")
	}
}

func TestP3_3FoldIsNew(t *testing.T) {
	for _, text := range []string{"x", "1"} {
		l := cat(byteOf(text), byteOf(text))
		was := slices.Clone(l)
		f := Fold(l)
		if !slices.Equal(l, was) {
			t.Error("it was changed")
		}
		f[0], f[2] = Node{}, Node{}
		if !slices.Equal(l, was) {
			t.Error("it is shared")
		}
	}
}

func TestP3_4Parse(t *testing.T) {
	for _, l := range rightOnes() {
		if got, e := Parse(Text(l)); e != api.OK || !slices.Equal(got, l) {
			t.Errorf("%q %v %v", Text(l), got, e)
		}
	}
	for _, x := range told() {
		if got, e := Parse(x.text); e != api.OK || !slices.Equal(got, x.l) {
			t.Errorf("%q %v %v", x.text, got, e)
		}
	}
}

func TestP3_4ParseOfWrongOnes(t *testing.T) {
	for _, s := range []string{
		"", " ", "x", "E", "ee", "(e)", "*0,1;e", "&ee", "|e[61]", " e", "e ", "e\n",
		"[]", "[", "]", "[6", "[61", "[6]", "[616]", "[61]]", "[6g]", "[g1]", "[4A]", "[6261]", "[6161]", "[61 62]", "[0x61]", "61",
		"^^", "$$", "&", "&^", "&^$^", "|", "|^", "|^$^", "&&^$^", "&|^$^", "&^|^$", "||^$^",
		"*", "*0", "*0,", "*0,1", "*0,1;", "*,1;[61]", "*0,;[61]", "*0;[61]", "*00,1;[61]", "*0,01;[61]", "*+0,1;[61]", "*0,+1;[61]",
		"*-1,1;[61]", "*-0,1;[61]", "*0,-2;[61]", "*0,-01;[61]", "*0,0;[61]", "*2,1;[61]", "*0,256;[61]", "*256,-1;[61]", "*256,256;[61]",
		"*0x1,2;[61]", "*1_0,20;[61]", "* 0,1;[61]", "*0, 1;[61]", "*0,1; [61]", "*0,1;^", "*0,1;$", "*0,1;*0,1;[61]", "*0,1;&[61][61]",
		"*0,1;|[61][61]", "*99999999999999999999,-1;[61]", "*0,99999999999999999999;[61]", "*0,18446744073709551615;[61]", "*4294967296,-1;[61]",
		"(", ")", "()", "([61]", "[61])", "([61]))", "(([61])", "([61]]", "([61]}",
		`\`, `\1`, `\0`, `&([61])\0`, `&([61])\2`, `&([61])\`, `&([61])\10`, `&([61])\01`, `&([61])\a`, `&\1([61])`, `(\1)`, `(&[61]\1)`, `&([61])/1`,
		"((((((((((^))))))))))", `&([61])\1 `,
		strings.Repeat("&^", 60) + "^", strings.Repeat("&^", 59) + "^^",
	} {
		if l, e := Parse(s); e != api.ErrRx || len(l) != 0 {
			t.Errorf("%q %v %v", s, l, e)
		}
	}
}

func TestP3_4ParseOfBounds(t *testing.T) {
	if l, e := Parse(strings.Repeat("&^", 59) + "^"); e != api.OK || len(l) != 119 {
		t.Error(len(l), e)
	}
	if l, e := Parse("&*1,2;[61]" + strings.Repeat("&^", 58) + "$"); e != api.OK || len(l) != 120 {
		t.Error(len(l), e)
	}
	if l, e := Parse("&*1,2;[61]&*1,2;[61]" + strings.Repeat("&^", 57) + "$"); e != api.ErrRx || len(l) != 0 {
		t.Error(len(l), e)
	}
	for _, head := range []string{"(", "&", "|", "*0,1;", "*", "[", `\`, "^", "e", "[61]", "&^", "|([61])"} {
		for _, behind := range []string{"", "^", "e", "[61]", ")", strings.Repeat(")", 1<<18)} {
			if l, e := Parse(strings.Repeat(head, 1<<18) + behind); e != api.ErrRx || len(l) != 0 {
				t.Errorf("%q %q %v", head, behind, e)
			}
		}
	}
}

func TestP3_4ParseOfNearOnes(t *testing.T) {
	for _, x := range told() {
		if len(x.text) > 100 {
			continue
		}
		var near []string
		for i := range len(x.text) + 1 {
			near = append(near, x.text[:i])
			for _, b := range `e[]^$&|*0129,-;()\af gA` + "\n\xff" {
				near = append(near, x.text[:i]+string(b)+x.text[i:])
				if i < len(x.text) {
					near = append(near, x.text[:i]+string(b)+x.text[i+1:])
				}
			}
			if i < len(x.text) {
				near = append(near, x.text[:i]+x.text[i+1:])
			}
		}
		for _, s := range near {
			l, e := Parse(s)
			if e == api.OK && (!May(l) || Text(l) != s) || e != api.OK && (e != api.ErrRx || len(l) != 0) {
				t.Errorf("%q %v %v", s, l, e)
			}
		}
	}
}

func TestP3_5OneText(t *testing.T) {
	of := map[string]string{}
	for n := 1; n <= 6; n++ {
		for _, x := range trees(n, 0, "") {
			s, nodes := Text(x.nodes), fmt.Sprint(x.nodes)
			if other, is := of[s]; is || s == "" {
				t.Fatalf("%q is of %s and of %s", s, other, nodes)
			}
			of[s] = nodes
			if got, e := Parse(s); e != api.OK || !slices.Equal(got, x.nodes) {
				t.Errorf("%q %v %v", s, got, e)
			}
		}
	}
	if len(of) < 1000 {
		t.Error(len(of))
	}
}
