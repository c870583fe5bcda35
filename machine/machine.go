// Package machine carries code out, step by step (P7, P8).
package machine

import (
	"shuttle/api"
	"shuttle/code"
)

// Machine has processes that go on one at a time. Between two steps its stack
// of numbers is empty: only within one are exprs reckoned.
type Machine struct {
	code      []code.Instruction
	branches  []code.Branch
	variables []int
	channels  []channel
	stack     []int
	current   *process
	urgent    line
	others    line
	asleep    sleepers
	slept     int // how many fell asleep so far
	time      int
	written   []int
	ended     bool
	faulty    bool
}

// New makes a machine that stands ahead of the first step.
func New(program code.Program) *Machine {
	m := &Machine{
		code:      program.Code,
		branches:  program.Branches,
		variables: make([]int, program.Room),
		channels:  make([]channel, program.Room),
	}
	m.current = &process{machine: m}
	return m
}

// Feed hands a number in.
func (m *Machine) Feed(n int) { m.send(code.In, n) }

// Run does as many steps as can be, at most so many. It tells how many that
// were, and how the machine stands then.
func (m *Machine) Run(steps int) (int, int) {
	table := actions()
	done := 0
	for m.current != nil || done < steps && m.makeCurrent() {
		now := m.code[m.current.at]
		if now.Kind == code.Step {
			if done >= steps {
				break
			}
			done++
		}
		m.current.at++
		table[now.Kind](m, now.Arg)
	}
	return done, m.stands()
}

// Out tells what was written since it was asked last. The list is given away
// whole, so that the machine has no part in what the caller does to it.
func (m *Machine) Out() []int {
	written := m.written
	m.written = nil
	return written
}

// Time tells the time.
func (m *Machine) Time() int { return m.time }

func (m *Machine) someCanGoOn() bool { return len(m.urgent) > 0 || len(m.others) > 0 }

// makeCurrent lets the first one that can go on do so, if there is one.
func (m *Machine) makeCurrent() bool {
	if m.faulty {
		return false
	}
	if !m.someCanGoOn() {
		m.wakeNext()
	}
	m.current = m.urgent.takeFirst()
	if m.current == nil {
		m.current = m.others.takeFirst()
	}
	return m.current != nil
}

func (m *Machine) stands() int {
	switch {
	case m.faulty:
		return api.Faulty
	case m.ended:
		return api.Ended
	case m.current != nil || m.someCanGoOn() || len(m.asleep) > 0:
		return api.Ready
	case m.channels[code.In].reader != nil:
		return api.Wants
	}
	return api.Stopped
}
