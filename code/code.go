// Package code turns a text that is right into instructions, ahead of time.
package code

import "shuttle/tree"

// Kind tells what an instruction does. Exprs are reckoned on a stack: what
// TAKES a number takes the uppermost one off it.
type Kind int

const (
	Step     Kind = iota // what follows is a step, up to what needs none
	Number               // puts Arg on the stack
	Variable             // puts the variable Arg on the stack
	Add                  // takes two, puts what comes of them; so down to More
	Subtract
	Multiply
	Divide
	Remainder
	Equal
	Less
	More
	Zero        // the variable Arg becomes 0
	Store       // takes a number: the variable Arg becomes that
	WriteOut    // takes a number, and writes it to `out`
	Write       // takes a number, and writes it to the channel Arg
	Open        // the branch Arg is open
	Read        // reads by the first open branch that can, or waits for all that are open
	Sleep       // takes a number, and sleeps so long
	Unless      // takes a number: if that is 0, it goes on at Arg
	Jump        // goes on at Arg
	Hold        // waits for ever
	Begin       // begins a process at Arg
	BeginUrgent // begins an urgent process at Arg
	Join        // goes on at Arg when all that it began are at their ends
	End         // the process is at its end
	Kinds       // how many kinds there are
)

// Instruction is one of a machine's instructions. What Arg is stands at its kind.
type Instruction struct {
	Kind Kind
	Arg  int
}

// Branch is a way to read: from the channel, into the variable, and then on at
// an instruction. A line that only reads has one, an alt has many.
type Branch struct {
	Channel int
	Into    int
	At      int
}

// In is the number of the channel from which is read what comes in.
const In = tree.InDecl

// Program is all that a machine needs of a text. Variables and channels have
// the numbers of their declarations, all of them below Room: what a text
// declares in one place is there at most once at a time, and nobody waits at a
// channel any more when what stands below its line is at its end.
type Program struct {
	Code     []Instruction
	Branches []Branch
	Room     int
}
