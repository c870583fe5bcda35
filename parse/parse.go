// Package parse reads a text by the grammar, and tells the first line in
// which it is wrong (P3).
package parse

import (
	"strings"

	"shuttle/api"
	"shuttle/tree"
)

// parser keeps the lines that the next one may belong to: the one that stands
// in by n steps belongs to chain[n]. The first one is above the whole text.
type parser struct {
	chain []*tree.Process
}

// Text reads a text: its one process, or an error and the number of the line
// that has it.
func Text(text string) (*tree.Process, api.Errno, int) {
	if len(text) > api.MaxText {
		return nil, api.ErrLong, 0
	}
	whole := &tree.Process{Kind: tree.Text}
	p := &parser{chain: []*tree.Process{whole}}
	lines := strings.Split(text, "\n")
	for i, line := range lines {
		if errno := p.add(line, i+1); errno != api.OK {
			return nil, errno, i + 1
		}
	}
	if !p.completeFrom(0) {
		return nil, api.ErrText, len(lines) + 1
	}
	return whole.Below[0], api.OK, 0
}

func (p *parser) add(line string, number int) api.Errno {
	body := strings.TrimLeft(line, " ")
	if body == "" {
		return api.OK
	}
	blanks := len(line) - len(body)
	depth := blanks / 2
	if depth > api.MaxDepth {
		return api.ErrDeep
	}
	if blanks%2 != 0 || !p.fits(depth) {
		return api.ErrText
	}
	above := p.chain[depth]
	process, errno := readLine(body, above.Kind)
	if errno != api.OK {
		return errno
	}
	process.Line = number
	above.Below = append(above.Below, process)
	p.chain = append(p.chain[:depth+1], process)
	return api.OK
}

// fits tells whether a line may stand in by so many steps: it ends all that
// stands as deep or deeper, and must have room where it belongs.
func (p *parser) fits(depth int) bool {
	if depth >= len(p.chain) || !p.completeFrom(depth+1) {
		return false
	}
	above := p.chain[depth]
	_, most := above.Kind.Room()
	return len(above.Below) < most
}

func (p *parser) completeFrom(depth int) bool {
	for _, process := range p.chain[depth:] {
		least, _ := process.Kind.Room()
		if len(process.Below) < least {
			return false
		}
	}
	return true
}
