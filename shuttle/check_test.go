package shuttle_test

import (
	"strings"
	"testing"

	"shuttle/api"
	"shuttle/shuttle"
)

type answer struct {
	errno api.Errno
	line  int
}

type wanted struct {
	text string
	line int
}

func checked(text string) answer {
	errno, line := shuttle.Check(text)
	return answer{errno, line}
}

func expect(t *testing.T, promise, text string, errno api.Errno, line int) {
	t.Helper()
	if got, want := checked(text), (answer{errno, line}); got != want {
		t.Errorf("%s: Check(%.200q) = %d, want %d", promise, text, got, want)
	}
}

func lines(l ...string) string { return strings.Join(l, "\n") }

func in(steps int) string { return strings.Repeat("  ", steps) }

// seqs is a row of so many lines, each of which stands below the one ahead.
func seqs(count int) string {
	text := ""
	for n := range count {
		text += in(n) + "seq\n"
	}
	return text
}

func TestExamples(t *testing.T) {
	for _, text := range []string{
		lines("var x", "  seq", "    in ? x", "    out ! x * 2"),
		"out ! 1 / 0", "stop", "seq",
		lines("par", "  skip", "  seq", "    wait 5", "    out ! 2"),
	} {
		expect(t, "Examples", text, api.OK, 0)
	}
	expect(t, "Examples", "x := 1", api.ErrName, 1)
	expect(t, "Examples", "var x", api.ErrText, 2)
	expect(t, "Examples", lines("var x", "  par", "    x := 1", "    out ! x"), api.ErrShare, 2)
}

func TestRightTexts(t *testing.T) {
	for _, text := range []string{
		"skip", "skip ", "wait0", "wait(1)", "out!1", "out ! 0000000", "if", "alt", "par",
		"\n\n   \nskip\n" + strings.Repeat(" ", 41) + "\n",
		lines("seq", "", "  skip", " ", "  skip", strings.Repeat(" ", 23), "  seq", "", "    skip"),
		lines("while1", "  skip"),
		lines("var abcdef", "  abcdef := abcdef"),
		lines("var i", "  var outs", "    var seqs", "      outs := i + seqs"),
		lines("var x", "  var y", "    x := ((((x + 1) - y) * 2) / 3) % (x < (y > (x = (y))))"),
		lines("var x", "  alt", "    on1&in?x", "      skip", "    on x&in?x", "      skip", "    on(x)&in?x", "      skip"),
	} {
		expect(t, "P3", text, api.OK, 0)
	}
}

func TestLong(t *testing.T) {
	for _, size := range []int{801, 802, 1000, 1 << 20} {
		for _, filler := range []string{" ", "\n", "(", "\xff"} {
			expect(t, "P3", strings.Repeat(filler, size), api.ErrLong, 0)
		}
		expect(t, "P3", "skip"+strings.Repeat(" ", size-4), api.ErrLong, 0)
	}
	expect(t, "P3", "skip"+strings.Repeat(" ", 796), api.OK, 0)
	expect(t, "P3", "skip"+strings.Repeat("\n", 796), api.OK, 0)
	expect(t, "P3", "x"+strings.Repeat("\n", 799), api.ErrText, 1)
}

func TestHowFarALineStandsIn(t *testing.T) {
	for steps := range api.MaxDepth + 1 {
		expect(t, "P3", seqs(steps)+in(steps)+"skip", api.OK, 0)
		expect(t, "P3", seqs(steps)+in(steps)+" skip", api.ErrText, steps+1)
		expect(t, "P3", seqs(steps)+"\n"+in(steps)+" ;", api.ErrText, steps+2)
	}
	for steps := api.MaxDepth + 1; steps < 20; steps++ {
		for _, line := range []string{"skip", " skip", ";", "x :=", "\xff"} {
			expect(t, "P3", seqs(api.MaxDepth+1)+in(steps)+line, api.ErrDeep, api.MaxDepth+2)
			expect(t, "P3", in(steps)+line, api.ErrDeep, 1)
			expect(t, "P3", "skip\n\n"+in(steps)+line, api.ErrDeep, 3)
		}
		expect(t, "P3", "skip\n"+in(steps)+"\n"+in(steps)+" ", api.OK, 0)
	}
}

func TestDeepestLineNeedsMoreBelow(t *testing.T) {
	ahead := seqs(api.MaxDepth) + in(api.MaxDepth)
	for _, line := range []string{"while 1", "pri", "var x", "chan c"} {
		expect(t, "P3", ahead+line, api.ErrText, api.MaxDepth+2)
		expect(t, "P3", ahead+line+"\n"+in(api.MaxDepth)+"skip", api.ErrText, api.MaxDepth+2)
		expect(t, "P3", ahead+line+"\n"+in(api.MaxDepth+1)+"skip", api.ErrDeep, api.MaxDepth+2)
	}
}

func TestBrackets(t *testing.T) {
	for _, line := range []string{
		"out ! (((((", "out ! (((((;", "out ! (((((1)))))", "out!((((1+(", "x := ((((1 + 2) + 3) + 4) + 5) * (((((",
		"wait (((((", "nobody ! (((((", "while (((((", "out ! 1 + (((((\xff",
	} {
		expect(t, "P3", line, api.ErrDeep, 1)
		expect(t, "P3", "seq\n  skip\n  "+line, api.ErrDeep, 3)
	}
	for _, line := range []string{
		"out ! ((((", "out ! ((((1(", "out ! ((((;(", "out ! ((((1))))(", "out ? (((((", "in ! (((((", "x (((((", "(((((",
		"skip (((((", "var (((((", "out ! ; (((((", "out ! toolong (((((", "out ! 12345678 (((((", "out ! in (((((", "out ! ((((1)))",
	} {
		expect(t, "P3", line, api.ErrText, 1)
	}
	expect(t, "P3", "if\n  when (((((", api.ErrDeep, 2)
	expect(t, "P3", "if\n  out ! (((((", api.ErrText, 2)
	expect(t, "P3", "alt\n  on (((((", api.ErrDeep, 2)
	expect(t, "P3", "alt\n  on x + (((((", api.ErrDeep, 2)
	expect(t, "P3", "alt\n  on x (((((", api.ErrText, 2)
	expect(t, "P3", "alt\n  on x ? (((((", api.ErrText, 2)
	expect(t, "P3", "alt\n  on x & (((((", api.ErrText, 2)
	expect(t, "P3", "skip\nout ! (((((", api.ErrText, 2)
	expect(t, "P3", "while 1\n  skip\n  out ! (((((", api.ErrText, 3)
	expect(t, "P3", "while 1\nout ! (((((", api.ErrText, 2)
}

func TestWrongLines(t *testing.T) {
	for _, c := range []wanted{
		{"skip\nskip", 2}, {"skip\n\n\n  skip", 4}, {"stop\n  skip", 2}, {"seq\n  skip\n    skip", 3}, {"seq\n  skip\n skip", 3}, {"seq\n\n    skip", 3},
		{"x", 1}, {"x y", 1}, {"1", 1}, {"x := ", 1}, {":= 1", 1}, {"x := 1 x", 1}, {"seq x", 1}, {"par 1", 1}, {"if 1", 1}, {"alt in", 1},
		{"out ? x", 1}, {"in ! 1", 1}, {"in := 1", 1}, {"out := 1", 1}, {"c ? 1", 1}, {"c ? in", 1}, {"c ? (x)", 1}, {"c ? x + 1", 1}, {"c !", 1},
		{"while := 1", 1}, {"wait := 1", 1}, {"when := 1", 1}, {"on := 1", 1}, {"out ! wait", 1}, {"out ! out", 1}, {"out ! 1 & 2", 1}, {"out ! 1 ! 2", 1},
		{"out ! 1 + 2 - 3", 1}, {"out ! (1 + 2 - 3)", 1}, {"out ! + 1", 1}, {"out ! 1 2", 1}, {"out ! 1(2)", 1}, {"out ! )1(", 1},
		{"var 1\n  skip", 1}, {"var\n  skip", 1}, {"chan out\n  skip", 1}, {"chan c d\n  skip", 1}, {"var skip\n  skip", 1}, {"var toolong\n  skip", 1},
		{"var x\nskip", 2}, {"var x\n  skip\n  skip", 3}, {"chan c\n\n  skip\n\n  skip", 5}, {"pri\n  skip\nskip", 3}, {"pri\n  skip\n  skip\n\n  skip", 5},
		{"seq\n  while 1\n  skip", 3}, {"seq\n  pri\n    skip\n  skip", 4}, {"when 1\n  skip", 1}, {"seq\n  on in ? x\n    skip", 2},
		{"if\n  when\n    skip", 2}, {"if\n  when 1\n    skip\n    skip", 4}, {"if\n  when 1\n    when 1\n      skip", 3}, {"if\n  skip", 2}, {"if\n  on in ? x", 2},
		{"alt\n  on\n    skip", 2}, {"alt\n  on 1\n    skip", 2}, {"alt\n  on x\n    skip", 2}, {"alt\n  on out ? x\n    skip", 2}, {"alt\n  on (c) ? x\n    skip", 2},
		{"alt\n  on 1 & out ? x\n    skip", 2}, {"alt\n  on in & in ? x\n    skip", 2}, {"alt\n  on 1 & c ! x\n    skip", 2}, {"alt\n  on 1 & 2 & c ? x\n    skip", 2},
		{"alt\n  on c ? x & 1\n    skip", 2}, {"alt\n  on 1 & (c) ? x\n    skip", 2}, {"alt\n  on in ? x\n    skip\n    skip", 4}, {"alt\n  when 1\n    skip", 2},
		{"skip\x00", 1}, {"skip\r\n", 1}, {"\tskip", 1}, {"seq\n\tskip", 2}, {"Skip", 1}, {"out ! 1.5", 1}, {"x_y := 1", 1}, {"out ! \"a\"", 1}, {"skip\n\x0b", 2},
	} {
		expect(t, "P3", c.text, api.ErrText, c.line)
	}
}

func TestTextsThatEndTooSoon(t *testing.T) {
	for _, c := range []wanted{
		{"", 2}, {"\n", 3}, {"   ", 2}, {" \n \n ", 4},
		{"while 1", 2}, {"while 1\n", 3}, {"while 1\n\n  ", 4}, {"var x", 2}, {"chan c\n   ", 3},
		{"pri", 2}, {"pri\n  skip", 3}, {"pri\n  skip\n  var x", 4}, {"seq\n  skip\n  while 1\n    pri\n      skip\n\n", 8},
		{"if\n  when 1", 3}, {"if\n  when 1\n    skip\n  when 1", 5}, {"alt\n  on in ? x", 3},
		{strings.Repeat("\n", 800), 802},
	} {
		expect(t, "P3", c.text, api.ErrText, c.line)
	}
}

func TestFirstErrorOfAText(t *testing.T) {
	expect(t, "P3", "x\n"+in(11)+"skip", api.ErrText, 1)
	expect(t, "P3", in(11)+"skip\nx", api.ErrDeep, 1)
	expect(t, "P3", "seq\n  out ! (((((1\n  x :=", api.ErrDeep, 2)
	expect(t, "P3", "seq\n  x :=\n  out ! (((((1", api.ErrText, 2)
	expect(t, "P3 ahead of P4", "seq\n  x := 1\n  y :=", api.ErrText, 3)
	expect(t, "P3 ahead of P4", "seq\n  x := 1\n  while 1", api.ErrText, 4)
	expect(t, "P3 ahead of P5", "par\n  out ! 1\n  out ! 2\n  out ! (((((", api.ErrDeep, 4)
	expect(t, "P4 ahead of P5", "par\n  out ! 1\n  out ! 2\n  out ! y", api.ErrName, 4)
}

func TestNames(t *testing.T) {
	for _, c := range []wanted{
		{"x := 1", 1}, {"c ! 1", 1}, {"out ! x", 1}, {"in ? x", 1}, {"wait x", 1}, {"while x\n  skip", 1}, {"out ! 1 + ((2 * 3) - (4 / x))", 1}, {"\n\nout ! x = 1", 3},
		{"var x\n  y := x", 2}, {"var x\n  x := y", 2}, {"var x\n  c ? x", 2}, {"chan c\n  c ? x", 2}, {"var x\n  out ! (x + y)", 2}, {"var x\n  xx := 1", 2},
		{"var x\n  x ! 1", 2}, {"var x\n  x ? x", 2}, {"chan c\n  c := 1", 2}, {"chan c\n  c ? c", 2}, {"chan c\n  c ! c", 2}, {"chan c\n  in ? c", 2}, {"chan c\n  wait c", 2},
		{"if\n  when 1\n    skip\n  when x\n    skip", 4}, {"if\n  when 1\n    out ! x", 3}, {"alt\n  on in ? x\n    skip", 2}, {"alt\n  on in ? x\n    var x\n      skip", 2},
		{"var x\n  alt\n    on c ? x\n      skip", 3}, {"var x\n  alt\n    on x ? x\n      skip", 3}, {"var x\n  alt\n    on y & in ? x\n      skip", 3}, {"chan c\n  var x\n    alt\n      on c & c ? x\n        skip", 4},
		{"var x\n  chan x\n    x := 1", 3}, {"chan x\n  var x\n    x ! 1", 3}, {"var x\n  chan x\n    in ? x", 3}, {"var x\n  seq\n    chan x\n      x ! 1\n    x ! 1", 5},
		{"seq\n  var x\n    x := 1\n  x := 1", 4}, {"seq\n  x := 1\n  var x\n    x := 1", 2}, {"par\n  var x\n    x := 1\n  out ! x", 4}, {"seq\n  y := 1\n  z := 1", 2},
	} {
		expect(t, "P4", c.text, api.ErrName, c.line)
	}
	for _, text := range []string{
		"var x\n  var x\n    x := x", "var x\n  chan x\n    x ! 1", "chan x\n  var x\n    in ? x", "var x\n  seq\n    chan x\n      x ! 1\n    x := 1", "var c\n  chan d\n    d ? c",
	} {
		expect(t, "P4", text, api.OK, 0)
	}
}

func TestShared(t *testing.T) {
	for _, c := range []wanted{
		{"var x\n  par\n    x := 1\n    x := 2", 2}, {"var x\n  pri\n    x := 1\n    out ! x", 2}, {"var x\n  par\n    out ! x\n    x := 1", 2}, {"var x\n  par\n    in ? x\n    x := 1", 2},
		{"var x\n  par\n    x := 1\n    wait x", 2}, {"var x\n  par\n    x := 1\n    while x\n      skip", 2}, {"var x\n  par\n    x := 1\n    if\n      when 0\n        skip\n      when x\n        skip", 2},
		{"var x\n  var y\n    par\n      x := 1\n      alt\n        on x & in ? y\n          skip", 3}, {"var x\n  par\n    out ! x\n    alt\n      on in ? x\n        skip", 2},
		{"var x\n  par\n    x := 1\n    skip\n    out ! 1 + (2 * (3 - x))", 2}, {"var x\n  par\n    skip\n    seq\n      skip\n      var y\n        x := 1\n    skip\n    while 1\n      seq\n        out ! x", 2},
		{"par\n  out ! 1\n  out ! 2", 1}, {"pri\n  out ! 1\n  seq\n    out ! 2", 1}, {"var x\n  var y\n    par\n      in ? x\n      alt\n        on in ? y\n          skip", 3},
		{"chan c\n  par\n    c ! 1\n    skip\n    c ! 2", 2}, {"chan c\n  par\n    var x\n      c ? x\n    var x\n      c ? x", 2}, {"chan c\n  par\n    var x\n      alt\n        on c ? x\n          skip\n    var x\n      alt\n        on 0 & c ? x\n          skip", 2},
		{"seq\n  par\n    skip\n  par\n    out ! 1\n    out ! 2\n  par\n    out ! 1\n    out ! 2", 4}, {"par\n  skip\n  par\n    out ! 1\n    out ! 2", 3}, {"par\n  out ! 3\n  par\n    out ! 1\n    out ! 2", 1},
		{"var x\n  par\n    var x\n      par\n        x := 1\n        out ! x\n    x := 1", 4}, {"var x\n  par\n    par\n      par\n        x := 1\n    seq\n      wait x", 2},
	} {
		expect(t, "P5", c.text, api.ErrShare, c.line)
	}
	for _, text := range []string{
		"var x\n  par\n    out ! x\n    wait x\n    while x\n      skip", "var x\n  par\n    x := 1\n    var x\n      out ! x", "var x\n  par\n    x := 1\n    chan x\n      x ! 1", "par\n  var x\n    x := 1\n  var x\n    x := 1",
		"var x\n  seq\n    par\n      x := 1\n    par\n      x := x", "var x\n  par\n    x := x\n    skip", "var x\n  seq\n    x := 1\n    out ! x", "chan c\n  par\n    seq\n      c ! 1\n      c ! 2\n    var x\n      seq\n        c ? x\n        c ? x",
		"par\n  chan c\n    c ! 1\n  chan c\n    c ! 1", "chan c\n  par\n    c ! 1\n    chan c\n      c ! 1", "par\n  out ! 1\n  var x\n    in ? x", "var x\n  if\n    when x\n      x := 1\n    when x\n      x := 2", "var x\n  alt\n    on in ? x\n      x := 1\n    on in ? x\n      out ! x",
		"chan c\n  chan d\n    par\n      c ! 1\n      d ! 1\n      var x\n        seq\n          c ? x\n          d ? x",
	} {
		expect(t, "P5", text, api.OK, 0)
	}
}
