package bank

import (
	"strings"

	"calender/addr"
	"calender/find"
	"calender/rx"
	"calender/script"
	"calender/table"
)

// player is a bank that does a step of a script.
type player struct {
	Bank
	script script.Script
	quiet  bool
	files  []table.File
	out    []Emit
	// next is where it goes on behind this step; till that is done, PC is the command that is played.
	next int
}

// step plays the command at PC, or ends the cycle behind all of them.
func (p *player) step() {
	if p.PC == len(p.script.Cmds) {
		p.print()
		p.endCycle()
		return
	}
	p.next = p.PC + 1
	switch c := p.command(); {
	case p.isMeant(c.R):
		commands()[c.Op](p)
	case c.Op == '{':
		p.next = c.To + 1
	}
	p.PC = p.next
}

// command is the one that is played.
func (p *player) command() script.Cmd { return p.script.Cmds[p.PC] }

// isMeant tells whether the line is, by r, and keeps what r knows then.
func (p *player) isMeant(r addr.Range) bool {
	line := addr.Line{N: p.N, Last: p.Last, Has: make([]bool, len(p.script.Pats))}
	// Both are looked for, whichever is asked: what was looked for last is what an empty pattern stands for.
	for _, a := range [...]addr.Addr{r.A, r.B} {
		if a.Kind == addr.Rx {
			line.Has[a.N] = find.Has(p.use(a.N), p.Pattern)
		}
	}
	is, state := addr.Ask(r, p.Ranges[p.PC], line)
	p.Ranges[p.PC] = state
	return is
}

// use is what is to be found of pattern n, which is used now; none, which is found nowhere, if it stands for none.
func (p *player) use(n int) []rx.Node {
	if !isEmpty(p.script.Pats[n]) {
		p.Used = n
	}
	if p.Used == noPattern {
		return nil
	}
	used := p.script.Pats[p.Used]
	if used.Fold {
		return rx.Fold(used.Nodes)
	}
	return used.Nodes
}

// isEmpty tells whether p stands for the one that was used last.
func isEmpty(p script.Pat) bool { return len(p.Nodes) == 1 && p.Nodes[0].Kind == rx.Empty }

// put lets text out.
func (p *player) put(text string, end bool) { p.out = append(p.out, Emit{text, end}) }

// putLine lets text out as a line that ends.
func (p *player) putLine(text string) { p.put(text, true) }

// putPattern lets Pattern out, which ends as the line did.
func (p *player) putPattern() { p.put(p.Pattern, p.End) }

// print lets Pattern out, unless nothing is to go out by itself.
func (p *player) print() {
	if !p.quiet {
		p.putPattern()
	}
}

// flush lets out all that was kept for later.
func (p *player) flush() {
	for _, l := range p.Queue {
		if l.File {
			p.putFile(l.Text)
		} else {
			p.putLine(l.Text)
		}
	}
	p.Queue = nil
}

// putFile lets out what the file of that name has, if there is one, and it has something.
func (p *player) putFile(name string) {
	data, _ := table.Get(p.files, name)
	if data != "" {
		p.put(strings.CutSuffix(data, "\n"))
	}
}

// endCycle ends what is done with the line.
func (p *player) endCycle() {
	p.flush()
	p.Phase = Begins
}
