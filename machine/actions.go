package machine

import (
	"shuttle/api"
	"shuttle/code"
)

// action is what an instruction does for the current process, which stands
// behind that instruction already.
type action func(m *Machine, arg int)

// actions is the table of what each kind of instruction does.
func actions() [code.Kinds]action {
	return [code.Kinds]action{
		code.Step:        (*Machine).step,
		code.Number:      (*Machine).put,
		code.Variable:    (*Machine).variable,
		code.Add:         (*Machine).add,
		code.Subtract:    (*Machine).subtract,
		code.Multiply:    (*Machine).multiply,
		code.Divide:      (*Machine).divide,
		code.Remainder:   (*Machine).remainder,
		code.Equal:       (*Machine).equal,
		code.Less:        (*Machine).less,
		code.More:        (*Machine).more,
		code.Zero:        (*Machine).zero,
		code.Store:       (*Machine).store,
		code.WriteOut:    (*Machine).writeOut,
		code.Write:       (*Machine).write,
		code.Open:        (*Machine).open,
		code.Read:        (*Machine).read,
		code.Sleep:       (*Machine).sleep,
		code.Unless:      (*Machine).unless,
		code.Jump:        (*Machine).jump,
		code.Hold:        (*Machine).hold,
		code.Begin:       (*Machine).begin,
		code.BeginUrgent: (*Machine).beginUrgent,
		code.Join:        (*Machine).join,
		code.End:         (*Machine).end,
	}
}

// step does nothing: Run has counted it.
func (m *Machine) step(int) {}

func (m *Machine) put(n int) { m.stack = append(m.stack, n) }

func (m *Machine) take() int {
	last := len(m.stack) - 1
	n := m.stack[last]
	m.stack = m.stack[:last]
	return n
}

func (m *Machine) takeTwo() (left, right int) {
	right = m.take()
	return m.take(), right
}

func (m *Machine) putTruth(holds bool) {
	if holds {
		m.put(1)
	} else {
		m.put(0)
	}
}

// leave ends what the current process does at a time: it waits, or is at its end.
func (m *Machine) leave() { m.current = nil }

// wait lets the current process wait until it is told.
func (m *Machine) wait(told func(channel, n int)) {
	m.current.told = told
	m.leave()
}

func (m *Machine) fault() {
	m.faulty = true
	m.leave()
}

func (m *Machine) variable(place int) { m.put(m.variables[place]) }

func (m *Machine) add(int) {
	left, right := m.takeTwo()
	m.put(left + right)
}

func (m *Machine) subtract(int) {
	left, right := m.takeTwo()
	m.put(left - right)
}

func (m *Machine) multiply(int) {
	left, right := m.takeTwo()
	m.put(left * right)
}

func (m *Machine) divide(int) {
	left, right := m.takeTwo()
	if right == 0 {
		m.fault()
		return
	}
	m.put(left / right)
}

func (m *Machine) remainder(int) {
	left, right := m.takeTwo()
	if right == 0 {
		m.fault()
		return
	}
	m.put(left % right)
}

func (m *Machine) equal(int) {
	left, right := m.takeTwo()
	m.putTruth(left == right)
}

func (m *Machine) less(int) {
	left, right := m.takeTwo()
	m.putTruth(left < right)
}

func (m *Machine) more(int) {
	left, right := m.takeTwo()
	m.putTruth(left > right)
}

func (m *Machine) zero(place int) { m.variables[place] = 0 }

func (m *Machine) store(place int) { m.variables[place] = m.take() }

func (m *Machine) writeOut(int) { m.written = append(m.written, m.take()) }

func (m *Machine) write(place int) {
	if !m.send(place, m.take()) {
		m.channels[place].writer = m.current
		m.wait(m.current.isWoken)
	}
}

func (m *Machine) open(branch int) {
	m.current.open = append(m.current.open, m.branches[branch])
}

func (m *Machine) read(int) {
	p := m.current
	for _, branch := range p.open {
		if from := &m.channels[branch.Channel]; from.canBeRead() {
			p.follow(branch, from.receive())
			return
		}
	}
	for _, branch := range p.open {
		m.channels[branch.Channel].reader = p
	}
	m.wait(p.hasRead)
}

func (m *Machine) sleep(int) {
	length := m.take()
	if length > api.MaxWait {
		m.fault()
		return
	}
	if length > 0 {
		m.fallAsleep(m.current, length)
		m.wait(m.current.isWoken)
	}
}

func (m *Machine) unless(at int) {
	if m.take() == 0 {
		m.jump(at)
	}
}

func (m *Machine) jump(at int) { m.current.at = at }

func (m *Machine) hold(int) { m.leave() }

func (m *Machine) begin(at int) { m.beginNew(at, m.current.urgent) }

func (m *Machine) beginUrgent(at int) { m.beginNew(at, true) }

func (m *Machine) beginNew(at int, urgent bool) {
	m.current.below++
	p := &process{machine: m, above: m.current, urgent: urgent, at: at}
	p.goOn()
}

func (m *Machine) join(at int) {
	m.jump(at)
	if m.current.below > 0 {
		m.wait(m.current.isWoken)
	}
}

func (m *Machine) end(int) {
	above := m.current.above
	m.leave()
	if above == nil {
		m.ended = true
		return
	}
	above.below--
	if above.below == 0 {
		above.told(0, 0)
	}
}
