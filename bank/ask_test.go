package bank

import (
	"fmt"
	"testing"

	"calender/addr"
	"calender/script"
)

// asked is a command 0 that is played, or not, and what is known of its range, and used, behind it.
type asked struct {
	script  string
	from    func(*Bank)
	isMeant bool
	state   addr.State
	used    int
}

// checkAsked plays commands p, that put Pattern, if they are meant.
func checkAsked(t *testing.T, cases []asked) {
	t.Helper()
	for i, c := range cases {
		x := parsed(t, c.script)
		b := running(len(x.Cmds))
		b.Used = -1
		c.from(&b)
		want := own(b)
		want.PC++
		want.Ranges[0], want.Used = c.state, c.used
		var out []Emit
		if c.isMeant {
			out = []Emit{{b.Pattern, true}}
		}
		checkStep(t, fmt.Sprintf("case %d, %q", i, c.script), x, false, b, nil, want, nil, out)
	}
}

// open makes the range of command 0 an open one, up to a line.
func open(to int) func(*Bank) {
	return func(b *Bank) { b.Ranges[0] = addr.State{Open: true, To: to} }
}

// used makes Used n.
func used(n int) func(*Bank) { return func(b *Bank) { b.Used = n } }

// line makes N n.
func line(n int) func(*Bank) { return func(b *Bank) { b.N = n } }

func TestP15_4AskedOne(t *testing.T) {
	var shut addr.State
	checkAsked(t, []asked{
		{"p", nothing, true, shut, -1},
		{"!p", nothing, false, shut, -1},
		{"3p", nothing, true, shut, -1},
		{"2p", nothing, false, shut, -1},
		{"2!p", nothing, true, shut, -1},
		{"$p", nothing, false, shut, -1},
		{"$p", isLast, true, shut, -1},
		{"$!p", isLast, false, shut, -1},
		{"1~2p", nothing, true, shut, -1},
		{"0~2p", nothing, false, shut, -1},
		{"/one/p", nothing, true, shut, 0},
		{"/e\\nt/p", nothing, true, shut, 0},
		{"/three/p", nothing, false, shut, 0},
		{"/three/!p", nothing, true, shut, 0},
		{"/^two/p", nothing, false, shut, 0},
		{"/two$/p", nothing, true, shut, 0},
	})
}

func TestP15_4AskedTwo(t *testing.T) {
	var shut addr.State
	is := func(to int) addr.State { return addr.State{Open: true, To: to} }
	checkAsked(t, []asked{
		{"3,5p", nothing, true, is(5), -1},
		{"3,5!p", nothing, false, is(5), -1},
		{"2,5p", nothing, false, shut, -1},
		{"2,5p", open(5), true, is(5), -1},
		{"2,3p", open(3), true, shut, -1},
		{"1,2p", open(2), false, shut, -1},
		{"1,2!p", open(2), true, shut, -1},
		{"3,+2p", nothing, true, is(5), -1},
		{"3,~2p", nothing, true, is(4), -1},
		{"3,$p", nothing, true, is(0), -1},
		{"3,$p", isLast, true, shut, -1},
		{"3,/one/p", nothing, true, is(0), 0},
		{"2,/one/p", open(0), true, shut, 0},
		{"2,/three/p", open(0), true, is(0), 0},
		{"/one/,/two/p", nothing, true, is(0), 1},
		{"/three/,/two/p", nothing, false, shut, 1},
		{"/three/,/two/p", open(0), true, shut, 1},
		{"/two/,/three/p", open(0), true, is(0), 1},
		{"/one/,7p", nothing, true, is(7), 0},
		{"0,/one/p", line(1), true, shut, 0},
		{"0,/three/p", line(1), true, is(0), 0},
		{"0,/one/p", line(2), false, shut, 0},
	})
}

// Only the range of the command that is asked is another one.
func TestP15_4OtherRangesStay(t *testing.T) {
	x := parsed(t, "p\n3,5p\n1,9p\n3,6p")
	b := running(4)
	b.Ranges[2] = addr.State{Open: true, To: 9}
	for pc, want := range []addr.State{{}, {Open: true, To: 5}, {Open: true, To: 9}, {Open: true, To: 6}} {
		ahead := own(b)
		ahead.PC = pc
		wanted := own(ahead)
		wanted.PC++
		wanted.Ranges[pc] = want
		checkStep(t, fmt.Sprint(pc), x, false, ahead, nil, wanted, nil, []Emit{{"one\ntwo", true}})
	}
}

// The patterns are numbered through all of the script.
func TestP15_4PatternsOfAll(t *testing.T) {
	x := parsed(t, "s/x/y/\n/z/,/two/p\ns/u/v/\n/one/p")
	for _, c := range []struct {
		pc, used int
		out      []Emit
	}{{0, 0, nil}, {1, 2, nil}, {2, 3, nil}, {3, 4, []Emit{{"one\ntwo", true}}}} {
		b := running(4)
		b.PC = c.pc
		want := own(b)
		want.PC, want.Used = c.pc+1, c.used
		checkStep(t, fmt.Sprint(c.pc), x, false, b, nil, want, nil, c.out)
	}
}

func TestP15_4AskedFold(t *testing.T) {
	var shut addr.State
	checkAsked(t, []asked{
		{"/ONE/p", nothing, false, shut, 0},
		{"/ONE/Ip", nothing, true, shut, 0},
		{"/[N-P]NE/Ip", nothing, true, shut, 0},
		{"/THREE/Ip", nothing, false, shut, 0},
		{"/ONE/I,/two/p", nothing, true, addr.State{Open: true}, 1},
		{"/three/,/TWO/Ip", open(0), true, shut, 1},
		{"/three/,/TWO/p", open(0), true, addr.State{Open: true}, 1},
	})
}

func TestP15_4AskedEmpty(t *testing.T) {
	var shut addr.State
	is := addr.State{Open: true}
	checkAsked(t, []asked{
		{"//p", nothing, false, shut, -1},
		{"//!p", nothing, true, shut, -1},
		{"//p;/one/d", used(1), true, shut, 1},
		{"//p;/three/d", used(1), false, shut, 1},
		{"//p;/ONE/d", used(1), false, shut, 1},
		{"//p;/ONE/Id", used(1), true, shut, 1},
		{"//p;s/ONE//I", used(1), true, shut, 1},
		{"//p;s/one//", used(1), true, shut, 1},
		// What is empty itself does not make another one a folded one.
		{"//Ip;/ONE/d", used(1), false, shut, 1},
		{"//Ip;/one/d", used(1), true, shut, 1},
		{"//Ip", nothing, false, shut, -1},
		// First A, then B: B stands for A, which is used then.
		{"/one/,//p", nothing, true, is, 0},
		{"/three/,//p", open(0), true, is, 0},
		{"/one/,//p", open(0), true, shut, 0},
		{"/ONE/I,//p", open(0), true, shut, 0},
		{"/one/,//p;/three/d", used(2), true, is, 0},
		{"//,/two/p;/one/d", used(2), true, is, 1},
		{"//,/two/p;/three/d", used(2), false, shut, 1},
		{"//,/two/p", nothing, false, shut, 1},
		{"//,//p", nothing, false, shut, -1},
		{"//,//p;/one/d", used(2), true, is, 2},
		{"//,//p;/one/d", both(open(0), used(2)), true, shut, 2},
		{"3,//p", nothing, true, is, -1},
		{"2,//p", open(0), true, is, -1},
	})
}

func TestP15_4ReplaceEmpty(t *testing.T) {
	becomes := func(s string, n int) func(*Bank) { return both(pattern(s), changed, used(n)) }
	checkCases(t, []stepCase{
		{"s//x/", nothing, nothing, nil},
		{"s//x/g", changed, nothing, nil},
		{"s//x/;/o/d", used(1), becomes("xne\ntwo", 1), nil},
		{"s//x/g;/o/d", used(1), becomes("xne\ntwx", 1), nil},
		{"s//x/g;/O/d", used(1), nothing, nil},
		{"s//x/g;/O/Id", used(1), becomes("xne\ntwx", 1), nil},
		{"s//x/Ig;/O/d", used(1), nothing, nil},
		{"s//<\\1>/;s/\\(n\\)e//", used(1), becomes("o<n>\ntwo", 1), nil},
		{"s//<\\2>/;s/\\(n\\)e//", used(1), becomes("o<>\ntwo", 1), nil},
		{"/two/s//x/", nothing, becomes("one\nx", 0), nil},
		{"/TWO/Is//x/", nothing, becomes("one\nx", 0), nil},
		{"/one/,/two/s//x/", nothing, both(becomes("one\nx", 1), func(b *Bank) { b.Ranges[0].Open = true }), nil},
		{"/three/s//x/", nothing, used(0), nil},
		{"s/two/x/;//d", nothing, becomes("one\nx", 0), nil},
		{"/one/s/z/x/", nothing, used(1), nil},
	})
}

// What is asked is what Pattern is then, not what the line was.
func TestP15_4AsksPatternOfThen(t *testing.T) {
	x := parsed(t, "s/one/three/\n/one/p\n/three/p")
	b := running(3)
	var all []Emit
	for range 3 {
		var out []Emit
		b, _, out = Step(x, false, b, nil)
		all = append(all, out...)
	}
	if got, want := fmt.Sprint(all), fmt.Sprint([]Emit{{"three\ntwo", true}}); got != want {
		t.Errorf("%v, want %v", got, want)
	}
}

// What is empty is the pattern without a part, and no other one that fits no byte.
func TestP15_4WhatIsEmpty(t *testing.T) {
	x, _, _ := script.Parse("/x*/p;/(x|y)?/p;/^/p;/x{0,1}/p", true)
	for pc := range x.Cmds {
		b := running(len(x.Cmds))
		b.PC = pc
		want := own(b)
		want.PC, want.Used = pc+1, pc
		checkStep(t, fmt.Sprint(pc), x, false, b, nil, want, nil, []Emit{{"one\ntwo", true}})
	}
}
