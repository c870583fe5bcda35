// Package machine carries code out, step by step (P7, P8).
package machine

import (
	"shuttle/api"
	"shuttle/code"
)

// Machine has processes that go on one at a time. Between two steps its stack
// of numbers is empty: only within one are exprs reckoned.
type Machine struct {
	code      []code.Instruction
	variables []int
	stack     []int
	current   *process
	line      []*process
	asleep    sleepers
	slept     int // how many fell asleep so far
	time      int
	fed       []int
	reader    *process
	written   []int
	ended     bool
	faulty    bool
}

// New makes a machine that stands ahead of the first step.
func New(program code.Program) *Machine {
	m := &Machine{code: program.Code, variables: make([]int, program.Room)}
	m.current = &process{machine: m}
	return m
}

// Feed hands a number in.
func (m *Machine) Feed(n int) {
	reader := m.reader
	if reader == nil {
		m.fed = append(m.fed, n)
		return
	}
	m.reader = nil
	reader.told(n)
}

// Run does as many steps as can be, at most so many. It tells how many that
// were, and how the machine stands then.
func (m *Machine) Run(steps int) (int, int) {
	table := actions()
	done := 0
	for m.current != nil || done < steps && m.makeCurrent() {
		now := m.code[m.current.at]
		if now.Kind == code.Step {
			if done >= steps {
				break
			}
			done++
		}
		m.current.at++
		table[now.Kind](m, now.Arg)
	}
	return done, m.stands()
}

// Out tells what was written since it was asked last. The list is given away
// whole, so that the machine has no part in what the caller does to it.
func (m *Machine) Out() []int {
	written := m.written
	m.written = nil
	return written
}

// Time tells the time.
func (m *Machine) Time() int { return m.time }

// makeCurrent lets the first one that can go on do so, if there is one.
func (m *Machine) makeCurrent() bool {
	if m.faulty {
		return false
	}
	if len(m.line) == 0 {
		m.wakeNext()
	}
	if len(m.line) == 0 {
		return false
	}
	m.current, m.line = m.line[0], m.line[1:]
	return true
}

func (m *Machine) stands() int {
	switch {
	case m.faulty:
		return api.Faulty
	case m.ended:
		return api.Ended
	case m.current != nil || len(m.line) > 0 || len(m.asleep) > 0:
		return api.Ready
	case m.reader != nil:
		return api.Wants
	}
	return api.Stopped
}
