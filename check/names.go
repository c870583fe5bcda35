// Package check tells what is wrong with a text that the grammar allows:
// names that don't mean what they must (P4), and processes beside one another
// that share what they may not (P5).
package check

import "shuttle/tree"

type declaration struct {
	text   string
	kind   tree.Kind
	number int
}

// resolver goes through a text in the order of its lines. Of the declarations
// that hold where it is, the nearest one is the last.
type resolver struct {
	holding []declaration
	next    int
	line    int
}

// Names gives each name the number of the declaration that it means. It tells
// the first line in which one does not mean what it must, or 0.
func Names(root *tree.Process) int {
	r := &resolver{
		holding: []declaration{
			{tree.In, tree.Chan, tree.InDecl},
			{tree.Out, tree.Chan, tree.OutDecl},
		},
		next: tree.FirstDecl,
	}
	r.process(root)
	return r.line
}

func (r *resolver) process(p *tree.Process) {
	switch p.Kind {
	case tree.Var, tree.Chan:
		r.declare(p)
		r.below(p)
		r.holding = r.holding[:len(r.holding)-1]
		return
	case tree.Becomes:
		r.resolve(&p.Name, tree.Var, p.Line)
	case tree.Write:
		r.resolve(&p.Channel, tree.Chan, p.Line)
	case tree.Read, tree.On:
		r.resolve(&p.Channel, tree.Chan, p.Line)
		r.resolve(&p.Name, tree.Var, p.Line)
	}
	p.Expr.EachName(func(name *tree.Name) { r.resolve(name, tree.Var, p.Line) })
	r.below(p)
}

func (r *resolver) below(p *tree.Process) {
	for _, process := range p.Below {
		r.process(process)
	}
}

func (r *resolver) declare(p *tree.Process) {
	p.Name.Decl = r.next
	r.next++
	r.holding = append(r.holding, declaration{p.Name.Text, p.Kind, p.Name.Decl})
}

// resolve keeps the first line that is wrong only: lines come in their order.
func (r *resolver) resolve(name *tree.Name, must tree.Kind, line int) {
	found := r.nearest(name.Text)
	if found.kind == must {
		name.Decl = found.number
	} else if r.line == 0 {
		r.line = line
	}
}

func (r *resolver) nearest(text string) declaration {
	for i := len(r.holding) - 1; i >= 0; i-- {
		if r.holding[i].text == text {
			return r.holding[i]
		}
	}
	return declaration{}
}
