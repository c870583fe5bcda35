package code_test

import (
	"strconv"
	"strings"
	"testing"

	"shuttle/api"
	"shuttle/check"
	"shuttle/code"
	"shuttle/parse"
	"shuttle/tree"
)

func made(t *testing.T, text string) code.Program {
	t.Helper()
	root, errno, line := parse.Text(text)
	if errno != api.OK || check.Names(root) != 0 {
		t.Fatalf("%q: %d, %d", text, errno, line)
	}
	return code.Make(root)
}

// show writes code as one text; variables are counted from 0 on.
func show(program code.Program) string {
	names := [code.Kinds]string{"step", "number", "variable", "+", "-", "*", "/", "%", "=", "<", ">", "zero", "store", "out", "in", "sleep", "unless", "jump", "hold", "end"}
	var all []string
	for _, i := range program.Code {
		word := names[i.Kind]
		switch i.Kind {
		case code.Number, code.Unless, code.Jump:
			word += strconv.Itoa(i.Arg)
		case code.Variable, code.Zero, code.Store, code.ReadIn:
			word += strconv.Itoa(i.Arg - tree.FirstDecl)
		}
		all = append(all, word)
	}
	return strings.Join(all, " ")
}

func TestCode(t *testing.T) {
	for _, c := range []struct{ text, want string }{
		{"seq", "end"},
		{"skip", "step end"},
		{"stop", "step hold end"},
		{"seq\n  skip\n  seq\n    skip", "step step end"},
		{"out ! 7", "step number7 out end"},
		{"wait 7", "step number7 sleep end"},
		{"var x\n  in ? x", "zero0 step in0 end"},
		{"var x\n  x := (1 - x) * 2", "zero0 step number1 variable0 - number2 * store0 end"},
		{"var x\n  var x\n    x := 1", "zero0 zero1 step number1 store1 end"},
		{"var x\n  seq\n    var x\n      x := 1\n    x := 2", "zero0 zero1 step number1 store1 step number2 store0 end"},
		{"while 1\n  skip", "step number1 unless5 step jump0 end"},
		{"seq\n  skip\n  while 1\n    seq\n  skip", "step step number1 unless5 jump1 step end"},
		{"if", "step hold end"},
		{"if\n  when 1\n    skip\n  when 2\n    seq", "step number1 unless5 step jump9 number2 unless8 jump9 hold end"},
		{"if\n  when 1\n    if\n      when 2\n        skip", "step number1 unless10 step number2 unless8 step jump9 hold jump11 hold end"},
	} {
		if got := show(made(t, c.text)); got != c.want {
			t.Errorf("the code of %q is %s, want %s", c.text, got, c.want)
		}
	}
	for _, op := range strings.Split("+ - * / % = < >", " ") {
		if got, want := show(made(t, "out ! 1 "+op+" 2")), "step number1 number2 "+op+" out end"; got != want {
			t.Errorf("the code of %s is %s, want %s", op, got, want)
		}
	}
}

func TestRoom(t *testing.T) {
	for text, variables := range map[string]int{
		"skip": 0, "var x\n  skip": 1, "var x\n  var y\n    skip": 2, "seq\n  var x\n    skip\n  var x\n    skip": 2,
	} {
		room := 0
		if variables > 0 {
			room = tree.FirstDecl + variables
		}
		if got := made(t, text).Room; got != room {
			t.Errorf("%q has room for %d, want %d", text, got, room)
		}
	}
}

// Whatever a text is, no instruction points out of its program.
func TestArgsStayInside(t *testing.T) {
	for _, text := range []string{
		"if\n  when 1\n    while 1\n      if\n  when 1\n    seq",
		"var x\n  while x\n    var y\n      while y\n        seq\n          in ? x\n          in ? y",
		"chan c\n  var x\n    par\n      c ! x\n      alt\n        on c ? x\n          skip",
	} {
		program := made(t, text)
		for _, i := range program.Code {
			switch i.Kind {
			case code.Unless, code.Jump:
				if i.Arg < 0 || i.Arg >= len(program.Code) {
					t.Errorf("%q: a jump to %d of %d", text, i.Arg, len(program.Code))
				}
			case code.Variable, code.Zero, code.Store, code.ReadIn:
				if i.Arg < tree.FirstDecl || i.Arg >= program.Room {
					t.Errorf("%q: variable %d of %d", text, i.Arg, program.Room)
				}
			}
		}
		if last := program.Code[len(program.Code)-1]; last.Kind != code.End {
			t.Errorf("%q does not end", text)
		}
	}
}
