// Package shuttle: processes that talk over channels: see DOC.md.
package shuttle

import (
	"shuttle/api"
	"shuttle/check"
	"shuttle/code"
	"shuttle/machine"
	"shuttle/parse"
	"shuttle/tree"
)

// Check tells what is wrong with a text, and in which line (P3 to P5).
func Check(text string) (api.Errno, int) {
	_, errno, line := read(text)
	return errno, line
}

// read gives the text's one process, with its names resolved, if all is right.
func read(text string) (*tree.Process, api.Errno, int) {
	root, errno, line := parse.Text(text)
	if errno != api.OK {
		return nil, errno, line
	}
	if line := check.Names(root); line != 0 {
		return nil, api.ErrName, line
	}
	if line := check.Share(root); line != 0 {
		return nil, api.ErrShare, line
	}
	return root, api.OK, 0
}

// Machine carries a text out.
type Machine struct {
	inner *machine.Machine
}

// Load makes a machine of a text (P6).
func Load(text string) (*Machine, api.Errno, int) {
	root, errno, line := read(text)
	if errno != api.OK {
		return nil, errno, line
	}
	return &Machine{machine.New(code.Make(root))}, api.OK, 0
}

// Feed hands a number in (P8).
func (m *Machine) Feed(n int) { m.inner.Feed(n) }

// Run goes on, by so many steps at most (P7).
func (m *Machine) Run(steps int) (int, int) { return m.inner.Run(steps) }

// Out tells the numbers that came out since it was asked last (P8).
func (m *Machine) Out() []int { return m.inner.Out() }

// Time tells the machine's time (P7).
func (m *Machine) Time() int { return m.inner.Time() }
