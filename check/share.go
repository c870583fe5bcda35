package check

import "shuttle/tree"

// use tells in which ways a variable or a channel stands in a process.
type use int

const (
	given   use = 1 << iota // a variable that gets a value
	asked                   // a variable whose value is asked
	written                 // a channel that is written to
	read                    // a channel that is read from
)

// uses are by the numbers of declarations. What a process declares for itself
// has a number that stands in no other process, so it can't clash.
type uses map[int]use

// sharer goes through a text and keeps the first line that shares.
type sharer struct {
	line int
}

// Share tells the first line that is a par or pri of which two processes share
// what they may not, or 0. The names must have been resolved.
func Share(root *tree.Process) int {
	s := &sharer{}
	s.process(root)
	return s.line
}

// process tells what stands in a process and all below it.
func (s *sharer) process(p *tree.Process) uses {
	all := own(p)
	var beside []uses
	for _, process := range p.Below {
		u := s.process(process)
		beside = append(beside, u)
		all.join(u)
	}
	if (p.Kind == tree.Par || p.Kind == tree.Pri) && anyTwoClash(beside) {
		s.found(p.Line)
	}
	return all
}

// found keeps the smallest line: what stands below a line is looked at ahead of it.
func (s *sharer) found(line int) {
	if s.line == 0 || line < s.line {
		s.line = line
	}
}

// own tells what stands in the line itself.
func own(p *tree.Process) uses {
	u := uses{}
	switch p.Kind {
	case tree.Becomes:
		u.add(p.Name, given)
	case tree.Write:
		u.add(p.Channel, written)
	case tree.Read, tree.On:
		u.add(p.Channel, read)
		u.add(p.Name, given)
	}
	p.Expr.EachName(func(name *tree.Name) { u.add(*name, asked) })
	return u
}

func (u uses) add(name tree.Name, how use) { u[name.Decl] |= how }

func (u uses) join(other uses) {
	for decl, how := range other {
		u[decl] |= how
	}
}

func anyTwoClash(beside []uses) bool {
	for i, one := range beside {
		for _, other := range beside[:i] {
			if one.clash(other) {
				return true
			}
		}
	}
	return false
}

func (u uses) clash(other uses) bool {
	for decl, how := range u {
		if how.clash(other[decl]) {
			return true
		}
	}
	return false
}

// clash of a variable: one gives it a value, and it stands in the other. Of a
// channel: both write, or both read.
func (u use) clash(other use) bool {
	if u == 0 || other == 0 {
		return false
	}
	return (u|other)&given != 0 || u&other&(written|read) != 0
}
