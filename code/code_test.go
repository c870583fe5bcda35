package code_test

import (
	"strconv"
	"strings"
	"testing"

	"shuttle/api"
	"shuttle/check"
	"shuttle/code"
	"shuttle/parse"
	"shuttle/tree"
)

func made(t *testing.T, text string) code.Program {
	t.Helper()
	root, errno, line := parse.Text(text)
	if errno != api.OK || check.Names(root) != 0 {
		t.Fatalf("%q: %d, %d", text, errno, line)
	}
	return code.Make(root)
}

// place writes a variable or a channel by its number, those of the text from 0 on.
func place(decl int) string {
	if decl == code.In {
		return "in"
	}
	return strconv.Itoa(decl - tree.FirstDecl)
}

// show writes code as one text, and behind it its branches.
func show(program code.Program) string {
	names := [code.Kinds]string{
		"step", "number", "variable", "+", "-", "*", "/", "%", "=", "<", ">", "zero", "store", "out", "write", "open", "read",
		"sleep", "unless", "jump", "hold", "begin", "urgent", "join", "end",
	}
	var all []string
	for _, i := range program.Code {
		word := names[i.Kind]
		switch i.Kind {
		case code.Number, code.Unless, code.Jump, code.Open, code.Begin, code.BeginUrgent, code.Join:
			word += strconv.Itoa(i.Arg)
		case code.Variable, code.Zero, code.Store, code.Write:
			word += place(i.Arg)
		}
		all = append(all, word)
	}
	for _, b := range program.Branches {
		all = append(all, place(b.Channel)+"?"+place(b.Into)+":"+strconv.Itoa(b.At))
	}
	return strings.Join(all, " ")
}

func TestCode(t *testing.T) {
	for _, c := range []struct{ text, want string }{
		{"seq", "end"},
		{"skip", "step end"},
		{"stop", "step hold end"},
		{"seq\n  skip\n  seq\n    skip", "step step end"},
		{"out ! 7", "step number7 out end"},
		{"wait 7", "step number7 sleep end"},
		{"var x\n  in ? x", "zero0 step open0 read end in?0:4"},
		{"var x\n  x := (1 - x) * 2", "zero0 step number1 variable0 - number2 * store0 end"},
		{"var x\n  var x\n    x := 1", "zero0 zero1 step number1 store1 end"},
		{"var x\n  seq\n    var x\n      x := 1\n    x := 2", "zero0 zero1 step number1 store1 step number2 store0 end"},
		{"while 1\n  skip", "step number1 unless5 step jump0 end"},
		{"seq\n  skip\n  while 1\n    seq\n  skip", "step step number1 unless5 jump1 step end"},
		{"if", "step hold end"},
		{"if\n  when 1\n    skip\n  when 2\n    seq", "step number1 unless5 step jump9 number2 unless8 jump9 hold end"},
		{"if\n  when 1\n    if\n      when 2\n        skip", "step number1 unless10 step number2 unless8 step jump9 hold jump11 hold end"},
		{"chan c\n  skip", "step end"},
		{"chan c\n  c ! 7", "step number7 write0 end"},
		{"chan c\n  chan d\n    c ! 7", "step number7 write0 end"},
		{"chan c\n  var x\n    seq\n      c ? x\n      in ? x\n      skip", "zero1 step open0 read step open1 read step end 0?1:4 in?1:7"},
		{"par", "step join2 end"},
		{"par\n  skip", "step begin3 join5 step end end"},
		{"par\n  seq\n  stop\n  skip", "step begin5 begin6 begin9 join11 end step hold end step end end"},
		{"pri\n  skip\n  stop", "step urgent4 begin6 join9 step end step hold end end"},
		{"seq\n  pri\n    par\n      skip\n    seq\n  skip", "step urgent4 begin10 join11 step begin7 join9 step end end end step end"},
		{"alt", "step read end"},
		{"var x\n  alt\n    on in ? x\n      seq", "zero0 step open0 read jump5 end in?0:4"},
		{"var x\n  chan c\n    alt\n      on 1 & c ? x\n        skip\n      on in ? x\n        stop\n      on x & c ? x\n        seq",
			"zero0 step number1 unless5 open0 open1 variable0 unless9 open2 read step jump16 step hold jump16 jump16 end 1?0:10 in?0:12 1?0:15"},
		{"var x\n  alt\n    on in ? x\n      alt\n        on 0 & in ? x\n          skip", "zero0 step open0 read step number0 unless8 open1 read step jump11 jump12 end in?0:4 in?0:9"},
	} {
		if got := show(made(t, c.text)); got != c.want {
			t.Errorf("the code of %q is %s, want %s", c.text, got, c.want)
		}
	}
	for _, op := range strings.Split("+ - * / % = < >", " ") {
		if got, want := show(made(t, "out ! 1 "+op+" 2")), "step number1 number2 "+op+" out end"; got != want {
			t.Errorf("the code of %s is %s, want %s", op, got, want)
		}
	}
}

func TestRoom(t *testing.T) {
	for text, declared := range map[string]int{
		"skip": 0, "var x\n  skip": 1, "var x\n  var y\n    skip": 2, "seq\n  var x\n    skip\n  var x\n    skip": 2,
		"chan c\n  skip": 1, "chan c\n  var x\n    chan c\n      skip": 3,
	} {
		if got, want := made(t, text).Room, tree.FirstDecl+declared; got != want {
			t.Errorf("%q has room for %d, want %d", text, got, want)
		}
	}
	if code.In < 0 || code.In >= made(t, "skip").Room {
		t.Errorf("there is no room for what comes in: %d", code.In)
	}
}

// Whatever a text is, no instruction points out of its program.
func TestArgsStayInside(t *testing.T) {
	for _, text := range []string{
		"if\n  when 1\n    while 1\n      if\n  when 1\n    seq",
		"var x\n  while x\n    var y\n      while y\n        seq\n          in ? x\n          in ? y",
		"chan c\n  var x\n    par\n      c ! x\n      alt\n        on c ? x\n          skip",
		"var x\n  pri\n    par\n      par\n        alt\n      alt\n        on x & in ? x\n          in ? x\n    seq",
	} {
		program := made(t, text)
		inside := func(what string, n, least, bound int) {
			if n < least || n >= bound {
				t.Errorf("%q: %s %d, of %d to %d", text, what, n, least, bound-1)
			}
		}
		for _, i := range program.Code {
			switch i.Kind {
			case code.Unless, code.Jump, code.Begin, code.BeginUrgent, code.Join:
				inside("a jump to", i.Arg, 0, len(program.Code))
			case code.Variable, code.Zero, code.Store, code.Write:
				inside("the place", i.Arg, tree.FirstDecl, program.Room)
			case code.Open:
				inside("branch", i.Arg, 0, len(program.Branches))
			}
		}
		for _, b := range program.Branches {
			inside("a branch from", b.Channel, tree.InDecl, program.Room)
			inside("a branch into", b.Into, tree.FirstDecl, program.Room)
			inside("a branch to", b.At, 0, len(program.Code))
		}
		if last := program.Code[len(program.Code)-1]; last.Kind != code.End {
			t.Errorf("%q does not end", text)
		}
	}
}
