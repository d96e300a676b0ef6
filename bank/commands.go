package bank

import (
	"strconv"
	"strings"

	"calender/addr"
	"calender/subst"
	"calender/table"
	"calender/trans"
)

// usualWidth is how wide a list is that names no width, which noWidth says.
const (
	usualWidth = 70
	noWidth    = -1
)

// commands are what each command does, by the byte that it is.
func commands() map[byte]func(*player) {
	return map[byte]func(*player){
		'{': (*player).nothing,
		'}': (*player).nothing,
		'=': (*player).number,
		'a': (*player).textLater,
		'b': (*player).jump,
		'c': (*player).change,
		'd': (*player).endCycle,
		'D': (*player).dropFirst,
		'g': (*player).get,
		'G': (*player).getBehind,
		'h': (*player).hold,
		'H': (*player).holdBehind,
		'i': (*player).textNow,
		'l': (*player).list,
		'n': (*player).nextLine,
		'N': (*player).joinLine,
		'p': (*player).putPattern,
		'P': (*player).putFirst,
		'q': (*player).quit,
		'Q': (*player).quitAtOnce,
		'r': (*player).fileLater,
		's': (*player).replace,
		't': (*player).jumpIfChanged,
		'T': (*player).jumpUnlessChanged,
		'w': (*player).write,
		'x': (*player).exchange,
		'y': (*player).swap,
	}
}

func (p *player) nothing() {}

func (p *player) number() { p.putLine(strconv.Itoa(p.N)) }

// text is what the command says, as a line.
func (p *player) text() string { return lessLast(p.command().Text) }

// lessLast is s without its last byte.
func lessLast(s string) string { return s[:max(len(s)-1, 0)] }

func (p *player) textNow() { p.putLine(p.text()) }

func (p *player) textLater() { p.Queue = append(p.Queue, Later{Text: p.text()}) }

func (p *player) fileLater() { p.Queue = append(p.Queue, Later{Text: p.command().Text, File: true}) }

// change says what is said in the place of all lines that are meant.
func (p *player) change() {
	r := p.command().R
	if r.B.Kind == addr.Every || r.Not || !p.Ranges[p.PC].Open {
		p.textNow()
	}
	p.endCycle()
}

func (p *player) jump() { p.next = p.command().To }

func (p *player) jumpIfChanged() {
	if p.Changed {
		p.jump()
	}
	p.Changed = false
}

func (p *player) jumpUnlessChanged() {
	if !p.Changed {
		p.jump()
	}
	p.Changed = false
}

// dropFirst drops the first line of Pattern, and goes on with those behind it, without a new one.
func (p *player) dropFirst() {
	_, behind, is := strings.Cut(p.Pattern, "\n")
	if !is {
		p.endCycle()
		return
	}
	p.flush()
	p.Pattern = behind
	p.next = 0
}

func (p *player) get() { p.Pattern = p.Hold }

func (p *player) getBehind() { p.Pattern = joined(p.Pattern, p.Hold) }

func (p *player) hold() { p.Hold = p.Pattern }

func (p *player) holdBehind() { p.Hold = joined(p.Hold, p.Pattern) }

func (p *player) exchange() { p.Pattern, p.Hold = p.Hold, p.Pattern }

func (p *player) list() {
	width := p.command().N
	if width == noWidth {
		width = usualWidth
	}
	p.putLine(lessLast(trans.List(p.Pattern, width)))
}

func (p *player) nextLine() {
	p.print()
	p.wait(WaitsN)
}

func (p *player) joinLine() {
	if p.Last {
		// No line comes to be joined, so this one goes out as it is.
		p.print()
	}
	p.wait(WaitsJ)
}

// wait waits for a line, as phase tells; behind the last one it is over.
func (p *player) wait(phase int) {
	p.flush()
	if p.Last {
		phase = Over
	}
	p.Phase = phase
	// The line that comes is what goes on behind the command.
	p.next = p.PC
}

// putFirst lets out the first line of Pattern.
func (p *player) putFirst() {
	if first, _, is := strings.Cut(p.Pattern, "\n"); is {
		p.putLine(first)
		return
	}
	p.putPattern()
}

func (p *player) quit() {
	p.print()
	p.flush()
	p.quitAtOnce()
}

func (p *player) quitAtOnce() {
	p.Code = p.command().N
	p.Phase = Over
}

func (p *player) write() { p.files = table.Add(p.files, p.command().Text, p.Pattern+"\n") }

// replace puts a replacement in the place of what is found.
func (p *player) replace() {
	c := p.command()
	text, n := subst.Sub(p.use(c.Pat), p.Pattern, c.Parts, c.N, c.All)
	if n == 0 {
		return
	}
	p.Pattern = text
	p.Changed = true
	if c.Print {
		p.putPattern()
	}
	if c.Text != "" {
		p.write()
	}
}

// swap makes bytes others.
func (p *player) swap() {
	c := p.command()
	m, _ := trans.Make(c.Text, c.Into)
	p.Pattern = trans.Apply(m, p.Pattern)
}
