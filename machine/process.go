package machine

// process keeps, while it waits, the method value by which it is told that it
// has what it waited for: n is the number that it has read, if it did read.
type process struct {
	machine *Machine
	at      int // the instruction that comes next
	into    int // the variable that it reads into
	told    func(n int)
}

func (p *process) hasRead(n int) {
	p.machine.variables[p.into] = n
	p.goOn()
}

func (p *process) isWoken(int) { p.goOn() }

func (p *process) goOn() {
	p.told = nil
	p.machine.line = append(p.machine.line, p)
}
