// Package shuttle: processes that talk over channels: see DOC.md.
package shuttle

import (
	"shuttle/api"
	"shuttle/check"
	"shuttle/parse"
)

// Check tells what is wrong with a text, and in which line (P3 to P5).
func Check(text string) (api.Errno, int) {
	root, errno, line := parse.Text(text)
	if errno != api.OK {
		return errno, line
	}
	if line := check.Names(root); line != 0 {
		return api.ErrName, line
	}
	if line := check.Share(root); line != 0 {
		return api.ErrShare, line
	}
	return api.OK, 0
}

// Machine carries a text out.
type Machine struct{}

// Load makes a machine of a text (P6).
func Load(text string) (*Machine, api.Errno, int) { return nil, api.OK, 0 }

// Feed hands a number in (P8).
func (m *Machine) Feed(n int) {}

// Run goes on, by so many steps at most (P7).
func (m *Machine) Run(steps int) (int, int) { return 0, 0 }

// Out tells the numbers that came out since it was asked last (P8).
func (m *Machine) Out() []int { return nil }

// Time tells the machine's time (P7).
func (m *Machine) Time() int { return 0 }
