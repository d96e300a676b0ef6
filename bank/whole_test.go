package bank

import (
	"slices"
	"strings"
	"testing"

	"calender/table"
)

// whole is what x lets out over a text, up to its end, and the bank and the files then.
func whole(t *testing.T, s string, quiet bool, in string, files []table.File) (string, Bank, []table.File) {
	t.Helper()
	x := parsed(t, s)
	b, left, out := play(x, table.Split(in), files, func(b Bank, t0 []table.File) (Bank, []table.File, []Emit) {
		return Step(x, quiet, b, t0)
	}, Give)
	if b.Phase != Over {
		t.Errorf("%q over %q: phase %d in the end", s, in, b.Phase)
	}
	return Bytes(out), b, left
}

func TestP15_4Whole(t *testing.T) {
	for _, c := range []struct{ script, in, want string }{
		{"", "", ""},
		{"", "a\nb\n", "a\nb\n"},
		{"", "a\nb", "a\nb"},
		{"", "\n\n", "\n\n"},
		{"p", "a", "a\na"},
		{"p", "a\n", "a\na\n"},
		{"#n\np", "a\nb", "a\nb"},
		{"$!d", "a\nb\nc\n", "c\n"},
		{"2,4!d", "1\n2\n3\n4\n5\n", "2\n3\n4\n"},
		{"2q", "a\nb\nc\n", "a\nb\n"},
		{"2Q", "a\nb\nc\n", "a\n"},
		{"$=", "a\nb", "a\n2\nb"},
		{"#n\n$=", "a\nb", "2\n"},
		{"1!G;h;$!d", "a\nb\nc\n", "c\nb\na\n"},
		{"G", "a\nb", "a\n\nb\n"},
		{"N;P;D", "a\nb\nc\n", "a\nb\nc\n"},
		{"$!N;P;D", "a\nb\nc", "a\nb\nc"},
		{"$!N;/^\\(.*\\)\\n\\1$/!P;D", "a\na\nb\nb\nb\nc\n", "a\nb\nc\n"},
		{":a;N;$!ba;s/\\n/,/g", "a\nb\nc\n", "a,b,c\n"},
		{":a;s/^[0-9]\\{1,3\\}$/0&/;ta", "7\n42\n", "0007\n0042\n"},
		{"n;d", "a\nb\nc\n", "a\nc\n"},
		{"N;N;s/\\n/+/g", "a\nb\nc\nd\ne\n", "a+b+c\nd\ne\n"},
		{"2{h;d};4G", "a\nb\nc\nd\n", "a\nc\nd\nb\n"},
		{"2i\\\nx\n2a\\\ny", "a\nb\nc", "a\nx\nb\ny\nc"},
		{"$a\\\ny", "a", "a\ny\n"},
		{"2,3c\\\nx", "a\nb\nc\nd\n", "a\nx\nd\n"},
		{"2,3!c\\\nx", "a\nb\nc\nd\n", "x\nb\nc\nx\n"},
		{"a\\\nx\nn", "a\nb\nc\n", "a\nx\nb\nc\nx\n"},
		{"y/abc/ABC/;s/B/<&>/", "abc\ncab\n", "A<B>C\nCA<B>\n"},
		{"x;$G", "a\nb\nc\n", "\na\nb\nc\n"},
		// Both patterns are looked for, so what is empty is the second one.
		{"/a/,/b/{//!d}", "x\na\n1\nb\ny\n", "x\nb\ny\n"},
		{"s/a/b/;T;y/bc/BC/", "a\nc\na\n", "B\nc\nB\n"},
		// That a line was changed holds on with the next ones, till it is asked.
		{"1s/a/b/;2!b;t;d", "a\nc\nd\n", "b\nc\nd\n"},
		{"1s/a/b/;3!b;T;d", "a\nc\nd\n", "b\nc\n"},
		{"l;d", "a\tb\n", "a\\tb$\n"},
	} {
		if got, b, _ := whole(t, c.script, false, c.in, nil); got != c.want || b.N > strings.Count(c.in, "\n")+1 {
			t.Errorf("%q over %q: %q, want %q", c.script, c.in, got, c.want)
		}
	}
}

func TestP15_4WholeWithFiles(t *testing.T) {
	files := []table.File{{Name: "f", Data: "F\nG\n"}, {Name: "g", Data: "H"}, {Name: "h"}}
	for _, c := range []struct {
		script, in, want string
		h                string
	}{
		{"r f", "a\nb\n", "a\nF\nG\nb\nF\nG\n", ""},
		{"1r g", "a\nb", "a\nH\nb", ""},
		{"$r g", "a\nb", "a\nb\nH", ""},
		{"r h\nr none", "a\nb", "a\nb", ""},
		{"w h", "a\nb", "a\nb", "a\nb\n"},
		{"/b/w h\nd", "a\nb\nab\n", "", "b\nab\n"},
		// A file is put as it is when the cycle ends.
		{"r h\nw h", "a\nb\n", "a\na\nb\na\nb\n", "a\nb\n"},
		{"s/a/x/gpw h", "a\nb\naa", "x\nx\nb\nxx\nxx", "x\nxx\n"},
		{"r f\nq 3", "a\nb\n", "a\nF\nG\n", ""},
		{"r f\nQ 3", "a\nb\n", "", ""},
	} {
		got, b, left := whole(t, c.script, false, c.in, files)
		want := slices.Clone(files)
		want[2].Data = c.h
		if got != c.want || !slices.Equal(left, want) || b.Code != 0 && b.Code != 3 {
			t.Errorf("%q over %q: %q and %q, want %q and %q", c.script, c.in, got, left, c.want, want)
		}
	}
}
