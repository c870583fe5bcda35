// Package tree has the form in which a text is kept once it has been read.
package tree

// Kind tells which line of the grammar a process is.
type Kind int

const (
	Text    Kind = iota // the whole text, above its one process
	Skip                // skip
	Stop                // stop
	Becomes             // Name := Expr
	Write               // Channel ! Expr
	Read                // Channel ? Name
	Wait                // wait Expr
	Seq                 // seq
	Par                 // par
	Pri                 // pri
	While               // while Expr
	If                  // if
	When                // when Expr, below an if
	Alt                 // alt
	On                  // on Expr & Channel ? Name, below an alt; Expr may be nil
	Var                 // var Name
	Chan                // chan Name
)

// Process is a line with all that stands below it. Which of its fields mean
// something stands at its kind.
type Process struct {
	Kind    Kind
	Line    int
	Name    Name
	Channel Name
	Expr    *Expr
	Below   []*Process
}

// Name is a name where it stands in a line. Decl is the number of the
// declaration that it means, and 0 as long as nobody has looked for that.
type Name struct {
	Text string
	Decl int
}

// The channels that no line declares have numbers of their own; those of the
// declarations in a text begin at FirstDecl.
const (
	InDecl    = 1
	OutDecl   = 2
	FirstDecl = 3

	In  = "in"
	Out = "out"
)

// ExprKind tells what an expr is.
type ExprKind int

const (
	Number   ExprKind = iota // Value
	Variable                 // Name
	Pair                     // Left Op Right
)

// Expr is an expr; brackets are not kept, they show in how pairs stand in one another.
type Expr struct {
	Kind  ExprKind
	Value int
	Name  Name
	Op    byte
	Left  *Expr
	Right *Expr
}

// EachName hands over every name that stands in the expr, from the first one
// on. An expr that isn't there has none.
func (e *Expr) EachName(do func(*Name)) {
	if e == nil {
		return
	}
	switch e.Kind {
	case Variable:
		do(&e.Name)
	case Pair:
		e.Left.EachName(do)
		e.Right.EachName(do)
	}
}

// anyNumber is more than a text that keeps to its bound can hold.
const anyNumber = 1 << 30

// Room tells how many processes must stand below a line of this kind at
// least, and how many may at most.
func (k Kind) Room() (least, most int) {
	switch k {
	case Seq, Par, If, Alt:
		return 0, anyNumber
	case Pri:
		return 2, 2
	case Text, While, When, On, Var, Chan:
		return 1, 1
	}
	return 0, 0
}
