package script

import "slices"

// names are those of files, each once.
type names map[string]struct{}

// add adds name, if it is one: a command that has no file has "".
func (l names) add(name string) {
	if name != "" {
		l[name] = struct{}{}
	}
}

// rising is all of l, in order.
func (l names) rising() []string {
	var all []string
	for name := range l {
		all = append(all, name)
	}
	slices.Sort(all)
	return all
}

// Files are the names of the files that x reads, and of those that it writes, each once, rising.
func Files(x Script) ([]string, []string) {
	reads, writes := names{}, names{}
	for _, c := range x.Cmds {
		switch c.Op {
		case 'r':
			reads.add(c.Text)
		case 'w', 's':
			writes.add(c.Text)
		}
	}
	return reads.rising(), writes.rising()
}
