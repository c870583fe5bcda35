// Package code turns a text that is right into instructions, ahead of time.
package code

// Kind tells what an instruction does. Exprs are reckoned on a stack: what
// TAKES a number takes the uppermost one off it.
type Kind int

const (
	Step     Kind = iota // what follows is a step, up to what needs none
	Number               // puts Arg on the stack
	Variable             // puts the variable Arg on the stack
	Add                  // takes two, puts what comes of them; so down to More
	Subtract
	Multiply
	Divide
	Remainder
	Equal
	Less
	More
	Zero     // the variable Arg becomes 0
	Store    // takes a number: the variable Arg becomes that
	WriteOut // takes a number, and writes it to `out`
	ReadIn   // reads from `in` into the variable Arg
	Sleep    // takes a number, and sleeps so long
	Unless   // takes a number: if that is 0, it goes on at Arg
	Jump     // goes on at Arg
	Hold     // waits for ever
	End      // the process is at its end
	Kinds    // how many kinds there are
)

// Instruction is one of a machine's instructions. What Arg is stands at its kind.
type Instruction struct {
	Kind Kind
	Arg  int
}

// Program is all that a machine needs of a text. Variables have the numbers of
// their declarations, all of them below Room: what a text declares in one
// place is there at most once at a time.
type Program struct {
	Code []Instruction
	Room int
}
