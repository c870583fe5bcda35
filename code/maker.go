package code

import "shuttle/tree"

type maker struct {
	program Program
}

// Make turns a text whose names have been resolved into a program.
func Make(root *tree.Process) Program {
	m := &maker{Program{Room: tree.FirstDecl}}
	m.process(root)
	m.add(End, 0)
	return m.program
}

// add tells where the instruction stands, so that it can be aimed later.
func (m *maker) add(kind Kind, arg int) int {
	m.program.Code = append(m.program.Code, Instruction{kind, arg})
	return m.next() - 1
}

func (m *maker) next() int { return len(m.program.Code) }

// aim lets instructions go to what comes next.
func (m *maker) aim(those ...int) {
	for _, at := range those {
		m.program.Code[at].Arg = m.next()
	}
}

func (m *maker) process(p *tree.Process) {
	switch p.Kind {
	case tree.Seq:
		m.below(p)
	case tree.Var, tree.Chan:
		m.declaration(p)
	case tree.While:
		m.while(p)
	case tree.If:
		m.choice(p)
	case tree.Alt:
		m.alt(p)
	case tree.Par, tree.Pri:
		m.beside(p)
	default:
		m.line(p)
	}
}

func (m *maker) below(p *tree.Process) {
	for _, process := range p.Below {
		m.process(process)
	}
}

func (m *maker) declaration(p *tree.Process) {
	m.program.Room = max(m.program.Room, p.Name.Decl+1)
	if p.Kind == tree.Var {
		m.add(Zero, p.Name.Decl)
	}
	m.below(p)
}

func (m *maker) while(p *tree.Process) {
	asking := m.add(Step, 0)
	m.expr(p.Expr)
	leave := m.add(Unless, 0)
	m.below(p)
	m.add(Jump, asking)
	m.aim(leave)
}

// choice has one step for all that is asked, so none of its whens has its own.
func (m *maker) choice(p *tree.Process) {
	m.add(Step, 0)
	var leave []int
	for _, when := range p.Below {
		m.expr(when.Expr)
		pass := m.add(Unless, 0)
		m.below(when)
		leave = append(leave, m.add(Jump, 0))
		m.aim(pass)
	}
	m.add(Hold, 0)
	m.aim(leave...)
}

// alt asks all its branches ahead of reading, as one step.
func (m *maker) alt(p *tree.Process) {
	m.add(Step, 0)
	var branches []int
	for _, on := range p.Below {
		branches = append(branches, m.branch(on))
	}
	m.add(Read, 0)
	var leave []int
	for i, on := range p.Below {
		m.land(branches[i])
		m.below(on)
		leave = append(leave, m.add(Jump, 0))
	}
	m.aim(leave...)
}

// branch opens a way to read, unless its expr is 0, and tells its number.
func (m *maker) branch(p *tree.Process) int {
	number := len(m.program.Branches)
	m.program.Branches = append(m.program.Branches, Branch{Channel: p.Channel.Decl, Into: p.Name.Decl})
	if p.Expr == nil {
		m.add(Open, number)
		return number
	}
	m.expr(p.Expr)
	pass := m.add(Unless, 0)
	m.add(Open, number)
	m.aim(pass)
	return number
}

// land lets a branch go on at what comes next.
func (m *maker) land(branch int) { m.program.Branches[branch].At = m.next() }

// beside lays the code of those that are begun behind that of who begins them.
func (m *maker) beside(p *tree.Process) {
	m.add(Step, 0)
	var begins []int
	for i := range p.Below {
		kind := Begin
		if p.Kind == tree.Pri && i == 0 {
			kind = BeginUrgent
		}
		begins = append(begins, m.add(kind, 0))
	}
	join := m.add(Join, 0)
	for i, process := range p.Below {
		m.aim(begins[i])
		m.process(process)
		m.add(End, 0)
	}
	m.aim(join)
}

// line makes the code of a line that is one step whole.
func (m *maker) line(p *tree.Process) {
	m.add(Step, 0)
	switch p.Kind {
	case tree.Stop:
		m.add(Hold, 0)
	case tree.Becomes:
		m.expr(p.Expr)
		m.add(Store, p.Name.Decl)
	case tree.Wait:
		m.expr(p.Expr)
		m.add(Sleep, 0)
	case tree.Write:
		m.write(p)
	case tree.Read:
		m.read(p)
	}
}

func (m *maker) write(p *tree.Process) {
	m.expr(p.Expr)
	if p.Channel.Decl == tree.OutDecl {
		m.add(WriteOut, 0)
		return
	}
	m.add(Write, p.Channel.Decl)
}

// read is an alt of one branch that is always open, with nothing below it.
func (m *maker) read(p *tree.Process) {
	only := m.branch(p)
	m.add(Read, 0)
	m.land(only)
}

func (m *maker) expr(e *tree.Expr) {
	switch e.Kind {
	case tree.Number:
		m.add(Number, e.Value)
	case tree.Variable:
		m.add(Variable, e.Name.Decl)
	case tree.Pair:
		m.expr(e.Left)
		m.expr(e.Right)
		m.add(operator(e.Op), 0)
	}
}

func operator(op byte) Kind {
	switch op {
	case '+':
		return Add
	case '-':
		return Subtract
	case '*':
		return Multiply
	case '/':
		return Divide
	case '%':
		return Remainder
	case '=':
		return Equal
	case '<':
		return Less
	}
	return More
}
