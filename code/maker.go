package code

import "shuttle/tree"

type maker struct {
	program Program
}

// Make turns a text whose names have been resolved into a program.
func Make(root *tree.Process) Program {
	m := &maker{}
	m.process(root)
	m.add(End, 0)
	return m.program
}

// add tells where the instruction stands, so that it can be aimed later.
func (m *maker) add(kind Kind, arg int) int {
	m.program.Code = append(m.program.Code, Instruction{kind, arg})
	return m.next() - 1
}

func (m *maker) next() int { return len(m.program.Code) }

// aim lets a jump go to what comes next.
func (m *maker) aim(jump int) { m.program.Code[jump].Arg = m.next() }

func (m *maker) process(p *tree.Process) {
	switch p.Kind {
	case tree.Seq, tree.Chan:
		m.below(p)
	case tree.Var:
		m.variable(p)
	case tree.While:
		m.while(p)
	case tree.If:
		m.choice(p)
	default:
		m.line(p)
	}
}

func (m *maker) below(p *tree.Process) {
	for _, process := range p.Below {
		m.process(process)
	}
}

func (m *maker) variable(p *tree.Process) {
	m.program.Room = max(m.program.Room, p.Name.Decl+1)
	m.add(Zero, p.Name.Decl)
	m.below(p)
}

func (m *maker) while(p *tree.Process) {
	asking := m.add(Step, 0)
	m.expr(p.Expr)
	leave := m.add(Unless, 0)
	m.below(p)
	m.add(Jump, asking)
	m.aim(leave)
}

// choice has one step for all that is asked, so none of its whens has its own.
func (m *maker) choice(p *tree.Process) {
	m.add(Step, 0)
	var leave []int
	for _, when := range p.Below {
		m.expr(when.Expr)
		pass := m.add(Unless, 0)
		m.below(when)
		leave = append(leave, m.add(Jump, 0))
		m.aim(pass)
	}
	m.add(Hold, 0)
	for _, jump := range leave {
		m.aim(jump)
	}
}

// line makes the code of a line that is one step whole.
func (m *maker) line(p *tree.Process) {
	m.add(Step, 0)
	switch p.Kind {
	case tree.Skip:
	case tree.Becomes:
		m.expr(p.Expr)
		m.add(Store, p.Name.Decl)
	case tree.Wait:
		m.expr(p.Expr)
		m.add(Sleep, 0)
	case tree.Write:
		m.write(p)
	case tree.Read:
		m.read(p)
	default:
		// Beside stop these are par, pri and alt, which no machine carries
		// out as yet.
		m.add(Hold, 0)
	}
}

// write lets who writes to a channel of the text wait for ever: as long as
// nothing stands beside it, nobody reads.
func (m *maker) write(p *tree.Process) {
	m.expr(p.Expr)
	if p.Channel.Decl == tree.OutDecl {
		m.add(WriteOut, 0)
		return
	}
	m.add(Hold, 0)
}

// read is as write: from a channel of the text there is nothing to read.
func (m *maker) read(p *tree.Process) {
	if p.Channel.Decl == tree.InDecl {
		m.add(ReadIn, p.Name.Decl)
		return
	}
	m.add(Hold, 0)
}

func (m *maker) expr(e *tree.Expr) {
	switch e.Kind {
	case tree.Number:
		m.add(Number, e.Value)
	case tree.Variable:
		m.add(Variable, e.Name.Decl)
	case tree.Pair:
		m.expr(e.Left)
		m.expr(e.Right)
		m.add(operator(e.Op), 0)
	}
}

func operator(op byte) Kind {
	switch op {
	case '+':
		return Add
	case '-':
		return Subtract
	case '*':
		return Multiply
	case '/':
		return Divide
	case '%':
		return Remainder
	case '=':
		return Equal
	case '<':
		return Less
	}
	return More
}
