package machine

import "shuttle/code"

// process keeps, while it waits, the method value by which it is told that it
// has what it waited for: n is the number that it has read from the channel,
// if it did read.
type process struct {
	machine *Machine
	above   *process // who began it; nobody began the first one
	urgent  bool
	at      int           // the instruction that comes next
	open    []code.Branch // the ways by which it reads, or waits to read
	below   int           // how many that it began are not at their ends
	told    func(channel, n int)
}

// hasRead leaves the channels of all open branches ahead of doing one of them:
// who writes to another one of these channels must not find this process there.
func (p *process) hasRead(channel, n int) {
	for _, branch := range p.open {
		p.machine.channels[branch.Channel].reader = nil
	}
	for _, branch := range p.open {
		if branch.Channel == channel {
			p.follow(branch, n)
			break
		}
	}
	p.goOn()
}

func (p *process) isWoken(int, int) { p.goOn() }

// follow does a branch whose number has been read.
func (p *process) follow(branch code.Branch, n int) {
	p.machine.variables[branch.Into] = n
	p.at = branch.At
	p.open = p.open[:0]
}

func (p *process) goOn() {
	p.told = nil
	if p.urgent {
		p.machine.urgent.add(p)
	} else {
		p.machine.others.add(p)
	}
}

// line is those that can go on, and are not current.
type line []*process

func (l *line) add(p *process) { *l = append(*l, p) }

// takeFirst gives nil if the line is empty.
func (l *line) takeFirst() *process {
	if len(*l) == 0 {
		return nil
	}
	first := (*l)[0]
	*l = (*l)[1:]
	return first
}
