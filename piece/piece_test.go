package piece

import (
	"fmt"
	"math"
	"math/rand/v2"
	"regexp"
	"strings"
	"testing"

	"calender/api"
)

// textsOf are all texts of letters, up to n of them.
func textsOf(letters string, n int) []string {
	all := []string{""}
	for from, length := 0, 0; length < n; length++ {
		to := len(all)
		for _, s := range all[from:to] {
			for i := range len(letters) {
				all = append(all, s+letters[i:i+1])
			}
		}
		from = to
	}
	return all
}

// byChance is a text of up to n letters.
func byChance(r *rand.Rand, letters string, n int) string {
	b := make([]byte, r.IntN(n+1))
	for i := range b {
		b[i] = letters[r.IntN(len(letters))]
	}
	return string(b)
}

// allBytes is each byte once.
func allBytes() string {
	b := make([]byte, 256)
	for i := range b {
		b[i] = byte(i)
	}
	return string(b)
}

// noPlaces are places that s has not: each is its length.
func noPlaces(s string) []int {
	return []int{-1, -2, -len(s) - 1, math.MinInt, len(s) + 1, len(s) + 2, math.MaxInt}
}

func TestP12_1Take(t *testing.T) {
	for _, x := range []struct {
		s    string
		at   int
		d    byte
		want string
		end  int
	}{
		{`a\/b/c`, 0, '/', "a/b", 5}, {"abc/def/g", 0, '/', "abc", 4}, {"abc/def/g", 4, '/', "def", 8}, {"abc/def/g", 2, '/', "c", 4}, {"/", 0, '/', "", 1}, {"//", 1, '/', "", 2}, {"a/", 0, '/', "a", 2}, {"a/", 1, '/', "", 2},
		// Of a \ and the delimiter only that is told, of others both.
		{`\//`, 0, '/', "/", 3}, {`\/\//`, 0, '/', "//", 5}, {`a\nb/`, 0, '/', `a\nb`, 5}, {`\(a\)\1/`, 0, '/', `\(a\)\1`, 8}, {`\,/`, 0, '/', `\,`, 3}, {`a\,b\/c,`, 0, ',', `a,b\/c`, 8}, {`\&/`, 0, '/', `\&`, 3},
		// They are taken together from left to right.
		{`\\/`, 0, '/', `\\`, 3}, {`\\\//`, 0, '/', `\\/`, 5}, {`\\\\/`, 0, '/', `\\\\`, 5}, {`a\\/b/`, 0, '/', `a\\`, 4}, {`\\//`, 0, '/', `\\`, 3}, {`\/a/`, 1, '/', "", 2}, {`\\/a/`, 1, '/', "/a", 5},
		// A byte 10 with a \ ahead goes with that, and one behind the end is not looked at.
		{"a\\\nb/", 0, '/', "a\\\nb", 5}, {"\\\n/", 0, '/', "\\\n", 3}, {"a/\n", 0, '/', "a", 2}, {"a\nb/c/", 2, '/', "b", 4}, {"a/\\", 0, '/', "a", 2},
		// Any other byte may be the delimiter: letters, too, that say something behind a \.
		{`a\nbnc`, 0, 'n', "anb", 5}, {`1\12`, 0, '1', "", 1}, {`x\12x1`, 0, '1', "x12x", 6}, {`a\|b|`, 0, '|', "a|b", 5}, {`a b `, 0, ' ', "a", 2}, {"a\\\x00b\x00", 0, 0, "a\x00b", 5}, {"a\\\xffb\xff", 0, 0xff, "a\xffb", 5}, {"é\xc3", 0, 0xa9, "\xc3", 2}, {"é\xc3", 0, 0xc3, "", 1}, {`a"b\""`, 2, '"', `b"`, 6}, {"a\rb", 0, '\r', "a", 2}, {"a;b", 0, ';', "a", 2},
		{"[/]/", 0, '/', "[", 2}, {`[\/]/`, 0, '/', "[/]", 5}, {"\x00\xff\t /", 0, '/', "\x00\xff\t ", 5}, {strings.Repeat(`\/`, 299) + "a/", 0, '/', strings.Repeat("/", 299) + "a", 600},
	} {
		if got, end, e := Take(x.s, x.at, x.d); got != x.want || end != x.end || e != api.OK {
			t.Errorf("%q %d %q: %q %d %v", x.s, x.at, x.d, got, end, e)
		}
	}
}

func TestP12_1TakeOfNone(t *testing.T) {
	for _, x := range []struct {
		s  string
		at int
		d  byte
	}{
		// There is no delimiter.
		{"", 0, '/'}, {"abc", 0, '/'}, {"abc", 3, '/'}, {"a/b", 2, '/'}, {"a/", 2, '/'}, {`\/`, 0, '/'}, {`a\/b`, 0, '/'}, {`\\\/`, 0, '/'}, {`\/\/`, 0, '/'}, {"abc", 1, 'a'}, {"a/b", 0, ','},
		// A \ has nothing behind it.
		{`\`, 0, '/'}, {`abc\`, 0, '/'}, {`abc\`, 3, '/'}, {`\\\`, 0, '/'}, {`\/\`, 0, '/'},
		// A byte 10 stands ahead of the delimiter.
		{"\n/", 0, '/'}, {"a\nb/", 0, '/'}, {"ab/\n/", 3, '/'}, {"\\\\\n/", 0, '/'}, {"\\\n\n/", 0, '/'}, {"\\/\n/", 0, '/'}, {"abc\n", 0, '/'}, {"\\\na/", 1, '/'},
		// No delimiters.
		{`a\b\`, 0, '\\'}, {`\\\`, 0, '\\'}, {`\`, 0, '\\'}, {`a\`, 1, '\\'}, {"", 0, '\\'}, {"a", 0, '\\'}, {"a\nb\n", 0, '\n'}, {"\n", 0, '\n'}, {"a\\\nb\n", 0, '\n'}, {"", 0, '\n'}, {"a\n", 2, '\n'},
		{strings.Repeat("a", 600), 7, '/'}, {strings.Repeat(`\/`, 300), 0, '/'},
	} {
		if got, end, e := Take(x.s, x.at, x.d); got != "" || end != x.at || e != api.ErrScript {
			t.Errorf("%q %d %q: %q %d %v", x.s, x.at, x.d, got, end, e)
		}
	}
	for _, s := range []string{"", "a", "a/b/", "/", `\/`, "\n"} {
		for _, at := range noPlaces(s) {
			if got, end, e := Take(s, at, '/'); got != "" || end != len(s) || e != api.ErrScript {
				t.Errorf("%q %d: %q %d %v", s, at, got, end, e)
			}
		}
	}
}

func TestP12_1EachDelimiter(t *testing.T) {
	for i := range 256 {
		d := byte(i)
		one := string([]byte{d})
		got, end, e := Take(`%\`+one+`%`+one+"%", 0, d)
		want, wantEnd, wantE := "%"+one+"%", 5, api.OK
		switch d {
		case '\\', '\n':
			want, wantEnd, wantE = "", 0, api.ErrScript
		case '%':
			want, wantEnd = "", 1
		}
		if got != want || end != wantEnd || e != wantE {
			t.Errorf("%q: %q %d %v", one, got, end, e)
		}
		// What stands behind a \ stays, with the \.
		if got, end, e := Take(`\`+one+"/", 0, '/'); d != '/' && (got != `\`+one || end != 3 || e != api.OK) {
			t.Errorf("\\%q: %q %d %v", one, got, end, e)
		}
	}
}

// taker finds what the chapter's Take by d tells of, at the beginning of a text.
func taker(d byte) *regexp.Regexp {
	return regexp.MustCompile(fmt.Sprintf(`(?s)\A((?:[^\\\n\x%02x]|\\.)*)\x%02x`, d, d))
}

// pairs finds each \ with what it is taken together with.
var pairs = regexp.MustCompile(`(?s)\\(.)`)

// naiveTake is the chapter's Take by d, which may be a delimiter, with taker's finder.
func naiveTake(find *regexp.Regexp, s string, at int, d byte) (string, int, api.Errno) {
	found := find.FindStringSubmatch(s[at:])
	if found == nil {
		return "", at, api.ErrScript
	}
	told := pairs.ReplaceAllStringFunc(found[1], func(pair string) string {
		if pair[1] == d {
			return pair[1:]
		}
		return pair
	})
	return told, at + len(found[0]), api.OK
}

func TestP12_1AllShortOnes(t *testing.T) {
	all := textsOf("a/\\\n", 6)
	for _, d := range []byte("/a,") {
		find := taker(d)
		for _, s := range all {
			for at := range len(s) + 1 {
				got, end, e := Take(s, at, d)
				if want, wantEnd, wantE := naiveTake(find, s, at, d); got != want || end != wantEnd || e != wantE {
					t.Fatalf("%q %d %q: %q %d %v, not %q %d %v", s, at, d, got, end, e, want, wantEnd, wantE)
				}
			}
		}
	}
}

func TestP12_1Give(t *testing.T) {
	for _, x := range []struct {
		t    string
		d    byte
		want string
	}{
		{"", '/', ""}, {"abc", '/', "abc"}, {"a/b", '/', `a\/b`}, {"/", '/', `\/`}, {"//", '/', `\/\/`}, {"/a/b/", '/', `\/a\/b\/`}, {"a/b", ',', "a/b"}, {"a,b", ',', `a\,b`},
		// All else is as it is, a \ and what is behind it, too.
		{`a\nb`, '/', `a\nb`}, {`\(a\)\1`, '/', `\(a\)\1`}, {`\\`, '/', `\\`}, {`\\/`, '/', `\\\/`}, {`\\\\//`, '/', `\\\\\/\/`}, {`\,/`, '/', `\,\/`}, {`\/,`, ',', `\/\,`}, {`a\nb`, 'a', `\a\nb`}, {`a\nb`, 'b', `a\n\b`}, {`\\n`, 'n', `\\\n`},
		{"\\\n", '/', "\\\n"}, {"a\\\nb/", '/', "a\\\nb\\/"}, {"\\\\\\\n", '/', "\\\\\\\n"}, {"\\\n\\\n", '/', "\\\n\\\n"}, {"\\\n/", '/', "\\\n\\/"},
		{"a b", ' ', `a\ b`}, {"\x00a", 0, "\\\x00a"}, {"a\xff", 0xff, "a\\\xff"}, {"é", 0xa9, "\xc3\\\xa9"}, {"é", 0xc3, "\\\xc3\xa9"}, {"é", 'e', "é"}, {"\t\r&[]", '/', "\t\r&[]"}, {strings.Repeat("/", 600), '/', strings.Repeat(`\/`, 600)},
	} {
		if got, e := Give(x.t, x.d); got != x.want || e != api.OK {
			t.Errorf("%q %q: %q %v", x.t, x.d, got, e)
		}
	}
}

func TestP12_1GiveOfNone(t *testing.T) {
	for _, x := range []struct {
		t string
		d byte
	}{
		// No delimiters.
		{"", '\\'}, {"a", '\\'}, {`\\`, '\\'}, {`a\`, '\\'}, {"", '\n'}, {"a", '\n'}, {"\n", '\n'}, {"\\\n", '\n'},
		// A byte 10 without a \ that it is taken together with.
		{"\n", '/'}, {"a\nb", '/'}, {"a\n", '/'}, {"\\\\\n", '/'}, {"\\\n\n", '/'}, {"\\a\n", '/'}, {"/\n", '/'}, {"\n/", '/'}, {"\\\\\\\\\n", '/'},
		// A \ that stands last.
		{`\`, '/'}, {`a\`, '/'}, {`\\\`, '/'}, {`/\`, '/'}, {`\a\`, '/'}, {"\\\n\\", '/'},
		// A \ that is taken together with the delimiter.
		{`\/`, '/'}, {`a\/b`, '/'}, {`\\\/`, '/'}, {`/\/`, '/'}, {`\//`, '/'}, {`a\nb`, 'n'}, {`\,`, ','}, {"\\\x00", 0}, {"\\\xff", 0xff}, {`\/\/`, '/'}, {strings.Repeat("a", 598) + `\/`, '/'},
	} {
		if got, e := Give(x.t, x.d); got != "" || e != api.ErrArg {
			t.Errorf("%q %q: %q %v", x.t, x.d, got, e)
		}
	}
}

func TestP12_1GiveEachDelimiter(t *testing.T) {
	for i := range 256 {
		d := byte(i)
		one := string([]byte{d})
		got, e := Give("%"+one+"%", d)
		want, wantE := `%\`+one+"%", api.OK
		switch d {
		case '\\', '\n':
			want, wantE = "", api.ErrArg
		case '%':
			want = `\%\%\%`
		}
		if got != want || e != wantE {
			t.Errorf("%q: %q %v", one, got, e)
		}
	}
}

func TestP12_1AllThatAreGiven(t *testing.T) {
	for _, d := range []byte("/a,") {
		// Each text that is taken, by what it is taken from: there is no other of which it is told.
		from := map[string]string{}
		find := taker(d)
		for _, u := range textsOf("a/\\\n", 8) {
			told, end, e := naiveTake(find, u+string(rune(d)), 0, d)
			if e != api.OK || end != len(u)+1 {
				continue
			}
			if other, is := from[told]; is {
				t.Fatalf("%q of %q and %q", told, u, other)
			}
			from[told] = u
		}
		for _, s := range textsOf("a/\\\n", 4) {
			got, e := Give(s, d)
			if want, is := from[s]; is && (got != want || e != api.OK) || !is && (got != "" || e != api.ErrArg) {
				t.Fatalf("%q %q: %q %v, not %q %v", s, d, got, e, want, is)
			}
		}
	}
}

func TestP12_2Blanks(t *testing.T) {
	for _, x := range []struct {
		s        string
		at, want int
	}{
		{"", 0, 0}, {"a", 0, 0}, {" a", 0, 1}, {"\ta", 0, 1}, {" \t \ta", 0, 4}, {"  ", 0, 2}, {"  ", 1, 2}, {"  ", 2, 2}, {"a  b", 0, 0}, {"a  b", 1, 3}, {"a  b", 2, 3}, {"a  b", 3, 3}, {"a  b", 4, 4}, {" a b", 0, 1}, {"a b  ", 3, 5},
		// Nothing else is a blank.
		{" \n a", 0, 1}, {"\n", 0, 0}, {" \r", 0, 1}, {" \v", 0, 1}, {" \f", 0, 1}, {" \x00", 0, 1}, {" \xa0", 0, 1}, {"\u00a0a", 0, 0}, {"\u3000", 0, 0}, {` \ `, 0, 1}, {strings.Repeat(" \t", 300), 0, 600}, {strings.Repeat(" ", 599) + "a", 3, 599},
	} {
		if got := Blanks(x.s, x.at); got != x.want {
			t.Errorf("%q %d: %d", x.s, x.at, got)
		}
	}
	for i := range 256 {
		want := 0
		if i == 32 || i == 9 {
			want = 1
		}
		if got := Blanks(string([]byte{byte(i)}), 0); got != want {
			t.Errorf("%d: %d", i, got)
		}
	}
}

func TestP12_2NoPlace(t *testing.T) {
	for _, s := range []string{"", " ", "7", "a b", "  12", "12 "} {
		for _, at := range noPlaces(s) {
			if got := Blanks(s, at); got != len(s) {
				t.Errorf("%q %d: %d", s, at, got)
			}
			if n, end, e := Number(s, at); n != 0 || end != len(s) || e != api.ErrNone {
				t.Errorf("%q %d: %d %d %v", s, at, n, end, e)
			}
			if word, end := Word(s, at, ";}"); word != "" || end != len(s) {
				t.Errorf("%q %d: %q %d", s, at, word, end)
			}
		}
	}
}

func TestP12_2Number(t *testing.T) {
	for _, x := range []struct {
		s          string
		at, n, end int
	}{
		{"0", 0, 0, 1}, {"7", 0, 7, 1}, {"12", 0, 12, 2}, {"12", 1, 2, 2}, {"1234567890", 1, 234567890, 10}, {"12p", 0, 12, 2}, {"1,2", 0, 1, 1}, {"1,2", 2, 2, 3}, {"a12b", 1, 12, 3}, {"3~4", 0, 3, 1}, {"3 4", 0, 3, 1}, {"3\n4", 0, 3, 1}, {"1_0", 0, 1, 1}, {"0x1f", 0, 0, 1}, {"1e3", 0, 1, 1}, {"1.5", 0, 1, 1}, {"5-3", 0, 5, 1}, {"7٣", 0, 7, 1},
		// A 0 ahead is a digit like the others.
		{"00", 0, 0, 2}, {"007", 0, 7, 3}, {"010", 0, 10, 3}, {"08", 0, 8, 2}, {"0999999999", 0, api.MaxNumber, 10}, {strings.Repeat("0", 599) + "5", 0, 5, 600}, {strings.Repeat("0", 600), 0, 0, 600},
		{"999999999", 0, api.MaxNumber, 9}, {"999999999p", 0, api.MaxNumber, 9}, {"1000000000", 1, 0, 10}, {"9999999990", 1, 999999990, 10},
	} {
		if n, end, e := Number(x.s, x.at); n != x.n || end != x.end || e != api.OK {
			t.Errorf("%q %d: %d %d %v", x.s, x.at, n, end, e)
		}
	}
}

func TestP12_2NumberOfNone(t *testing.T) {
	for _, x := range []struct {
		s    string
		at   int
		want api.Errno
	}{
		{"", 0, api.ErrNone}, {"a", 0, api.ErrNone}, {"a1", 0, api.ErrNone}, {"1a", 1, api.ErrNone}, {"12", 2, api.ErrNone}, {" 1", 0, api.ErrNone}, {"\t1", 0, api.ErrNone}, {"\n1", 0, api.ErrNone}, {"+1", 0, api.ErrNone}, {"-1", 0, api.ErrNone}, {"~1", 0, api.ErrNone}, {"_1", 0, api.ErrNone}, {"/1", 0, api.ErrNone}, {":1", 0, api.ErrNone}, {"$", 0, api.ErrNone}, {"٣", 0, api.ErrNone}, {"½", 0, api.ErrNone}, {"\x00", 0, api.ErrNone}, {"\xff1", 0, api.ErrNone},
		{"1000000000", 0, api.ErrArg}, {"a1000000000b", 1, api.ErrArg}, {"01000000000", 0, api.ErrArg}, {"9999999999", 0, api.ErrArg}, {"2147483648", 0, api.ErrArg}, {"4294967296", 0, api.ErrArg}, {"4294967297", 0, api.ErrArg}, {"9223372036854775807", 0, api.ErrArg}, {"9223372036854775808", 0, api.ErrArg}, {"18446744073709551615", 0, api.ErrArg}, {"18446744073709551616", 0, api.ErrArg}, {"18446744073709551617", 0, api.ErrArg}, {"340282366920938463463374607431768211457", 0, api.ErrArg}, {strings.Repeat("1", 600), 0, api.ErrArg}, {strings.Repeat("9", 600), 590, api.ErrArg},
	} {
		if n, end, e := Number(x.s, x.at); n != 0 || end != x.at || e != x.want {
			t.Errorf("%q %d: %d %d %v", x.s, x.at, n, end, e)
		}
	}
}

func TestP12_2AllNumbers(t *testing.T) {
	for _, s := range textsOf("0189,a ", 5) {
		for at := range len(s) + 1 {
			n, end, e := Number(s, at)
			want, wantEnd := 0, at
			for wantEnd < len(s) && strings.ContainsRune("0123456789", rune(s[wantEnd])) {
				want = want*10 + strings.Index("0123456789", s[wantEnd:wantEnd+1])
				wantEnd++
			}
			wantE := api.OK
			if wantEnd == at {
				wantE = api.ErrNone
			}
			if n != want || end != wantEnd || e != wantE {
				t.Fatalf("%q %d: %d %d %v", s, at, n, end, e)
			}
		}
	}
	for n := api.MaxNumber - 20; n < api.MaxNumber+20; n++ {
		s := fmt.Sprint(n)
		got, end, e := Number("x"+s+"x", 1)
		if n <= api.MaxNumber && (got != n || end != len(s)+1 || e != api.OK) || n > api.MaxNumber && (got != 0 || end != 1 || e != api.ErrArg) {
			t.Errorf("%d: %d %d %v", n, got, end, e)
		}
	}
}

func TestP12_2Word(t *testing.T) {
	for _, x := range []struct {
		s    string
		at   int
		ends string
		want string
		end  int
	}{
		{"", 0, "", "", 0}, {"", 0, ";", "", 0}, {"abc", 0, "", "abc", 3}, {"abc", 0, ";}", "abc", 3}, {"abc;d", 0, ";}", "abc", 3}, {"abc}d", 0, ";}", "abc", 3}, {"ab}c;d", 0, ";}", "ab", 2}, {"abc;d", 1, ";}", "bc", 3}, {"abc;d", 3, ";}", "", 3}, {"abc;d", 4, ";}", "d", 5}, {"abc;d", 5, ";}", "", 5}, {";", 0, ";", "", 0},
		// A byte 10 is an end, whatever ends has.
		{"ab\ncd", 0, "", "ab", 2}, {"ab\ncd", 0, ";}", "ab", 2}, {"ab;c\nd", 0, "", "ab;c", 4}, {"\nab", 0, "", "", 0}, {"ab\n", 0, "\n", "ab", 2}, {"ab\\\ncd", 0, "", `ab\`, 3},
		// The place stays behind the blanks that are left out at the end; those elsewhere are not left out.
		{"ab  ;c", 0, ";", "ab", 4}, {"ab \t ", 0, ";", "ab", 5}, {"ab\t\nc", 0, "", "ab", 3}, {"  ab", 0, "", "  ab", 4}, {"a b c ", 0, "", "a b c", 6}, {"\ta\tb\t;", 0, ";", "\ta\tb", 5}, {"   ", 0, "", "", 3}, {" \t;", 0, ";", "", 2}, {" ", 1, "", "", 1}, {"ab \r", 0, "", "ab \r", 4}, {"ab \v\f", 0, "", "ab \v\f", 5}, {"ab\u00a0", 0, "", "ab\u00a0", 4}, {"a\x00 ", 0, "", "a\x00", 3},
		// A blank may be an end, too.
		{"ab cd", 0, " ", "ab", 2}, {"ab\tcd", 0, " ", "ab\tcd", 5}, {"ab\t cd", 0, " ", "ab", 3}, {" ab", 0, " ", "", 0},
		// Ends are bytes, and a \ says nothing.
		{"é;", 0, "\xa9", "\xc3", 1}, {"é;", 0, "\xc3", "", 0}, {"aé", 0, "è", "a", 1}, {"a\xc0;", 0, "é;", "a\xc0", 2}, {"a\xff;", 0, "\xff", "a", 1}, {"a\xfe;", 0, "\xff;", "a\xfe", 2}, {"a\uFFFDb", 0, "\xff", "a\uFFFDb", 5}, {"a\x00b", 0, "\x00", "a", 1}, {`a\;b`, 0, ";", `a\`, 2}, {`a\b`, 0, `\`, "a", 1}, {"a#b", 0, ";}", "a#b", 3},
		{strings.Repeat("a", 500) + strings.Repeat(" ", 99) + ";", 0, ";}", strings.Repeat("a", 500), 599}, {allBytes(), 11, "", allBytes()[11:], 256},
	} {
		if got, end := Word(x.s, x.at, x.ends); got != x.want || end != x.end {
			t.Errorf("%q %d %q: %q %d", x.s, x.at, x.ends, got, end)
		}
	}
}

func TestP12_2AllWords(t *testing.T) {
	for _, ends := range []string{"", ";", ";}", "a", " ", "\n"} {
		for _, s := range textsOf("a; \t\n}", 5) {
			for at := range len(s) + 1 {
				got, end := Word(s, at, ends)
				word, _, _ := strings.Cut(s[at:], "\n")
				for i := range len(ends) {
					word, _, _ = strings.Cut(word, ends[i:i+1])
				}
				if got != strings.TrimRight(word, " \t") || end != at+len(word) {
					t.Fatalf("%q %d %q: %q %d", s, at, ends, got, end)
				}
			}
		}
	}
}

func TestP12_3Text(t *testing.T) {
	for _, x := range []struct {
		s    string
		at   int
		want string
		end  int
	}{
		{"", 0, "\n", 0}, {"a", 0, "a\n", 1}, {"abc", 1, "bc\n", 3}, {"abc", 3, "\n", 3}, {"abc\n", 0, "abc\n", 4}, {"abc\ndef", 0, "abc\n", 4}, {"abc\ndef", 4, "def\n", 7}, {"abc\ndef", 3, "\n", 4}, {"\n", 0, "\n", 1}, {"\n", 1, "\n", 1}, {"\n\n", 0, "\n", 1},
		// Of a \ and the byte behind it that byte alone is told.
		{`a\b`, 0, "ab\n", 3}, {`\\`, 0, `\` + "\n", 2}, {`\\\\a`, 0, `\\a` + "\n", 5}, {`a\nb`, 0, "anb\n", 4}, {`\/\&\1`, 0, "/&1\n", 6}, {`\ a`, 0, " a\n", 3}, {"\\\ta", 0, "\ta\n", 3}, {`a\b`, 1, "b\n", 3}, {`a\b`, 2, "b\n", 3}, {`\\a`, 1, "a\n", 3}, {"\\\x00\\\xff", 0, "\x00\xff\n", 4},
		{"a\\\nb", 0, "a\nb\n", 4}, {"a\\\nb\nc", 0, "a\nb\n", 5}, {"\\\n", 0, "\n\n", 2}, {"\\\n\n", 0, "\n\n", 3}, {"\\\n\\\n", 0, "\n\n\n", 4}, {"a\\\\\nb", 0, "a\\\n", 4}, {"a\\\\\\\nb", 0, "a\\\nb\n", 6}, {"\\\nb", 1, "\n", 2},
		// All else stays: blanks, and what ends other commands.
		{"  a  ", 0, "  a  \n", 5}, {"a;b}c#d", 0, "a;b}c#d\n", 7}, {"\x00\xff\r\t", 0, "\x00\xff\r\t\n", 4}, {strings.Repeat(`\a`, 300), 0, strings.Repeat("a", 300) + "\n", 600},
		// What stands behind the text says nothing of it.
		{"a\nb\\", 0, "a\n", 2}, {"\n\\", 0, "\n", 1},
	} {
		if got, end, e := Text(x.s, x.at); got != x.want || end != x.end || e != api.OK {
			t.Errorf("%q %d: %q %d %v", x.s, x.at, got, end, e)
		}
	}
	for _, s := range []string{"", "a", "abc\n", "a\nb", `\`, `a\`} {
		for _, at := range noPlaces(s) {
			if got, end, e := Text(s, at); got != "\n" || end != len(s) || e != api.OK {
				t.Errorf("%q %d: %q %d %v", s, at, got, end, e)
			}
		}
	}
}

func TestP12_3TextOfNone(t *testing.T) {
	for _, x := range []struct {
		s  string
		at int
	}{
		{`\`, 0}, {`a\`, 0}, {`a\`, 1}, {`\\\`, 0}, {`\\`, 1}, {`a\b\`, 2}, {"a\nb\\", 2}, {"\\\n\\", 0}, {"a\\\nb\\", 0}, {"a\\\nb\\", 3}, {`\a\`, 0}, {strings.Repeat("a", 599) + `\`, 5},
	} {
		if got, end, e := Text(x.s, x.at); got != "" || end != x.at || e != api.ErrScript {
			t.Errorf("%q %d: %q %d %v", x.s, x.at, got, end, e)
		}
	}
}

// naiveText is the chapter's Text.
func naiveText(find *regexp.Regexp, s string, at int) (string, int, api.Errno) {
	found := find.FindStringSubmatch(s[at:])
	if found == nil {
		return "", at, api.ErrScript
	}
	return pairs.ReplaceAllString(found[1], "$1") + "\n", at + len(found[0]), api.OK
}

func TestP12_3AllShortOnes(t *testing.T) {
	find := regexp.MustCompile(`(?s)\A((?:[^\\\n]|\\.)*)(?:\n|\z)`)
	for _, s := range textsOf("a \\\n", 7) {
		for at := range len(s) + 1 {
			got, end, e := Text(s, at)
			if want, wantEnd, wantE := naiveText(find, s, at); got != want || end != wantEnd || e != wantE {
				t.Fatalf("%q %d: %q %d %v, not %q %d %v", s, at, got, end, e, want, wantEnd, wantE)
			}
		}
	}
}

func TestP12_3Untext(t *testing.T) {
	for _, x := range []struct{ t, want string }{
		{"\n", ""}, {"a\n", "a"}, {"abc\n", "abc"}, {"\\\n", `\\`}, {"a\\b\n", `a\\b`}, {"\\\\\n", `\\\\`}, {"\\n\n", `\\n`}, {"a/b&\n", "a/b&"},
		// Each byte 10 but the last one has a \ ahead.
		{"\n\n", "\\\n"}, {"a\nb\n", "a\\\nb"}, {"\n\n\n", "\\\n\\\n"}, {"a\n\n", "a\\\n"}, {"a\\\nb\n", "a\\\\\\\nb"}, {"\na\n", "\\\na"},
		// Blanks have one at the beginning only.
		{" \n", `\ `}, {"\t\n", "\\\t"}, {" a\n", `\ a`}, {"\ta\n", "\\\ta"}, {"  a\n", `\  a`}, {" \t a\n", "\\ \t a"}, {"\t\t\n", "\\\t\t"}, {"a b \n", "a b "}, {"a\t\n", "a\t"}, {"\n a\n", "\\\n a"}, {"a\n b\n", "a\\\n b"}, {"\\ a\n", `\\ a`}, {" \\\n", `\ \\`},
		{"\ra\n", "\ra"}, {"\v\n", "\v"}, {"\u00a0\n", "\u00a0"}, {"\x00\xff\n", "\x00\xff"}, {"a;b}#c\n", "a;b}#c"}, {strings.Repeat("\n", 600), strings.Repeat("\\\n", 599)},
	} {
		if got, e := Untext(x.t); got != x.want || e != api.OK {
			t.Errorf("%q: %q %v", x.t, got, e)
		}
	}
}

func TestP12_3UntextOfNone(t *testing.T) {
	for _, s := range []string{"", "a", "abc", " ", "\t", `\`, "\na", "a\nb", "a\n ", "a\n\\", "\r", "\x00", "\xff", `\n`, strings.Repeat("a\n", 299) + "a"} {
		if got, e := Untext(s); got != "" || e != api.ErrArg {
			t.Errorf("%q: %q %v", s, got, e)
		}
	}
}

func TestP12_3AllThatAreUntold(t *testing.T) {
	for _, s := range textsOf("a \t\\\n", 6) {
		got, e := Untext(s)
		if !strings.HasSuffix(s, "\n") {
			if got != "" || e != api.ErrArg {
				t.Fatalf("%q: %q %v", s, got, e)
			}
			continue
		}
		want := ""
		for i := range len(s) - 1 {
			if s[i] == '\\' || s[i] == '\n' || i == 0 && (s[i] == ' ' || s[i] == '\t') {
				want += `\`
			}
			want += s[i : i+1]
		}
		if got != want || e != api.OK {
			t.Fatalf("%q: %q %v, not %q", s, got, e, want)
		}
	}
}

// checkGiven holds what is given of s, by d, against what is taken of it, alone and within others.
func checkGiven(t *testing.T, s string, d byte) bool {
	t.Helper()
	given, e := Give(s, d)
	if e != api.OK {
		return false
	}
	one := string([]byte{d})
	for _, behind := range []string{"", "a", one, `\`, "\n", s} {
		for _, ahead := range []string{"", "s" + one, `\`, "\n", one + given} {
			got, end, e := Take(ahead+given+one+behind, len(ahead), d)
			if got != s || end != len(ahead)+len(given)+1 || e != api.OK {
				t.Fatalf("%q %q, %q: %q %d %v", s, d, given, got, end, e)
			}
		}
	}
	return true
}

func TestP12_4GivenIsTaken(t *testing.T) {
	n := 0
	for _, s := range textsOf("a/\\\n", 5) {
		for _, d := range []byte("/a,\\\n") {
			if checkGiven(t, s, d) {
				n++
			}
		}
	}
	if n < 500 {
		t.Error(n)
	}
	r := rand.New(rand.NewPCG(12, 1))
	for range 2000 {
		checkGiven(t, byChance(r, `\\\\/,;n`+allBytes(), 60), byte(r.IntN(256)))
		checkGiven(t, byChance(r, `\n/,; a`, 600), '/')
	}
}

func TestP12_4TakenIsGiven(t *testing.T) {
	n := 0
	for _, s := range textsOf("a/\\\n", 6) {
		for _, d := range []byte("/a,") {
			told, end, e := Take(s, 0, d)
			if e != api.OK {
				continue
			}
			if given, e := Give(told, d); given != s[:end-1] || e != api.OK {
				t.Fatalf("%q %q: %q, %q %v", s, d, told, given, e)
			}
			n++
		}
	}
	if n < 500 {
		t.Error(n)
	}
}

// checkUntold holds what is untold of s against what is told of it, alone and within others.
func checkUntold(t *testing.T, s string) {
	t.Helper()
	untold, e := Untext(s)
	if e != api.OK {
		t.Fatalf("%q: %v", s, e)
	}
	if got, end, e := Text(untold, 0); got != s || end != len(untold) || e != api.OK {
		t.Fatalf("%q, %q: %q %d %v", s, untold, got, end, e)
	}
	for _, ahead := range []string{"", "a", `\`, " \t"} {
		for _, behind := range []string{"", "a", `\`, "\n", s} {
			at := Blanks(ahead+untold, len(ahead))
			if at != len(ahead) {
				t.Fatalf("%q, %q: %d", s, untold, at)
			}
			got, end, e := Text(ahead+untold+"\n"+behind, at)
			if got != s || end != at+len(untold)+1 || e != api.OK {
				t.Fatalf("%q, %q: %q %d %v", s, untold, got, end, e)
			}
		}
	}
}

func TestP12_4UntoldIsTold(t *testing.T) {
	for _, s := range textsOf("a \t\\\n", 5) {
		checkUntold(t, s+"\n")
	}
	r := rand.New(rand.NewPCG(12, 2))
	for range 2000 {
		checkUntold(t, byChance(r, allBytes(), 599)+"\n")
		checkUntold(t, byChance(r, "\\\n \ta", 599)+"\n")
	}
}

func TestP12_4ToldIsUntold(t *testing.T) {
	// What is told may be untold, though not always to what it was told of.
	n := 0
	for _, s := range textsOf("a \\\n", 6) {
		told, _, e := Text(s, 0)
		if e != api.OK {
			continue
		}
		checkUntold(t, told)
		n++
	}
	if n < 1000 {
		t.Error(n)
	}
}

func TestP12_4Large(t *testing.T) {
	// What is read in one go comes back at once, however long it is.
	const n = 1 << 20
	slashes := strings.Repeat("/", n)
	if given, e := Give(slashes, '/'); given != strings.Repeat(`\/`, n) || e != api.OK {
		t.Error(len(given), e)
	}
	if untold, e := Untext(strings.Repeat("\n", n)); untold != strings.Repeat("\\\n", n-1) || e != api.OK {
		t.Error(len(untold), e)
	}
	if at := Blanks(strings.Repeat(" ", n), 0); at != n {
		t.Error(at)
	}
	if word, end := Word(strings.Repeat("a ", n), 0, ";"); len(word) != 2*n-1 || end != 2*n {
		t.Error(len(word), end)
	}
	if got, end, e := Number(strings.Repeat("0", n), 0); got != 0 || end != n || e != api.OK {
		t.Error(got, end, e)
	}
}
