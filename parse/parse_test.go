package parse_test

import (
	"strconv"
	"strings"
	"testing"

	"shuttle/api"
	"shuttle/parse"
	"shuttle/tree"
)

// show writes a process as one text, with all that hangs on it.
func show(p *tree.Process) string {
	parts := []string{strconv.Itoa(p.Line), kindName(p.Kind)}
	if p.Name.Text != "" {
		parts = append(parts, "name="+p.Name.Text)
	}
	if p.Channel.Text != "" {
		parts = append(parts, "channel="+p.Channel.Text)
	}
	if p.Expr != nil {
		parts = append(parts, "expr="+showExpr(p.Expr))
	}
	for _, below := range p.Below {
		parts = append(parts, "{"+show(below)+"}")
	}
	return strings.Join(parts, " ")
}

func showExpr(e *tree.Expr) string {
	switch e.Kind {
	case tree.Number:
		return strconv.Itoa(e.Value)
	case tree.Variable:
		return e.Name.Text
	}
	return "[" + showExpr(e.Left) + string(e.Op) + showExpr(e.Right) + "]"
}

func kindName(k tree.Kind) string {
	return [...]string{"text", "skip", "stop", "becomes", "write", "read", "wait", "seq", "par", "pri", "while", "if", "when", "alt", "on", "var", "chan"}[k]
}

func TestTree(t *testing.T) {
	for _, c := range []struct{ text, want string }{
		{"skip", "1 skip"},
		{"\n  \nstop\n", "3 stop"},
		{"x := y", "1 becomes name=x expr=y"},
		{"c ! 0012", "1 write channel=c expr=12"},
		{"out ! 9999999", "1 write channel=out expr=9999999"},
		{"c ? x", "1 read name=x channel=c"},
		{"in ? x", "1 read name=x channel=in"},
		{"wait (1)", "1 wait expr=1"},
		{"x := 1 + (2 * (x % 3))", "1 becomes name=x expr=[1+[2*[x%3]]]"},
		{"x := ((1 - 2)) / (3)", "1 becomes name=x expr=[[1-2]/3]"},
		{"x := 1 = 2", "1 becomes name=x expr=[1=2]"},
		{"x := (1 < 2) > 3", "1 becomes name=x expr=[[1<2]>3]"},
		{"while x\n  skip", "1 while expr=x {2 skip}"},
		{"seq\n  skip\n\n  par\n    stop\n  pri\n    skip\n    stop", "1 seq {2 skip} {4 par {5 stop}} {6 pri {7 skip} {8 stop}}"},
		{"if\n  when 1\n    skip\n  when 2\n    stop", "1 if {2 when expr=1 {3 skip}} {4 when expr=2 {5 stop}}"},
		{"alt\n  on c ? x\n    skip\n  on in ? x\n    skip", "1 alt {2 on name=x channel=c {3 skip}} {4 on name=x channel=in {5 skip}}"},
		{"alt\n  on c & d ? x\n    skip\n  on (c) & in ? x\n    skip\n  on c < 1 & d ? x\n    skip", "1 alt {2 on name=x channel=d expr=c {3 skip}} {4 on name=x channel=in expr=c {5 skip}} {6 on name=x channel=d expr=[c<1] {7 skip}}"},
		{"alt\n  on 1&c?x\n    skip", "1 alt {2 on name=x channel=c expr=1 {3 skip}}"},
		{"var x\n  chan c\n    seq", "1 var name=x {2 chan name=c {3 seq}}"},
	} {
		p, errno, line := parse.Text(c.text)
		if errno != api.OK || line != 0 || p == nil {
			t.Errorf("P3: %q: %v, %d, %d", c.text, p, errno, line)
		} else if got := show(p); got != c.want {
			t.Errorf("%q is read as %s, want %s", c.text, got, c.want)
		}
	}
}

func TestWrongTextHasNoTree(t *testing.T) {
	for _, text := range []string{"", "x", "seq\n skip", "while 1", "out ! (((((", strings.Repeat(" ", 801)} {
		if p, errno, _ := parse.Text(text); p != nil || errno == api.OK {
			t.Errorf("P3: %q: %v, %d", text, p, errno)
		}
	}
}
