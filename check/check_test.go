package check_test

import (
	"testing"

	"shuttle/api"
	"shuttle/check"
	"shuttle/parse"
	"shuttle/tree"
)

func read(t *testing.T, text string) *tree.Process {
	t.Helper()
	root, errno, line := parse.Text(text)
	if errno != api.OK {
		t.Fatalf("%q: %d, %d", text, errno, line)
	}
	return root
}

// at tells the process of a line.
func at(p *tree.Process, line int) *tree.Process {
	if p.Line == line {
		return p
	}
	for _, below := range p.Below {
		if found := at(below, line); found != nil {
			return found
		}
	}
	return nil
}

func TestNamesMeanTheNearestDeclaration(t *testing.T) {
	root := read(t, "var x\n  seq\n    x := 1\n    var x\n      x := x + 2\n    chan c\n      seq\n        c ! x\n        out ! 1\n        in ? x")
	if line := check.Names(root); line != 0 {
		t.Fatalf("P4: line %d", line)
	}
	outer, inner, channel := at(root, 1).Name.Decl, at(root, 4).Name.Decl, at(root, 6).Name.Decl
	if outer < tree.FirstDecl || inner < tree.FirstDecl || channel < tree.FirstDecl || outer == inner || inner == channel || outer == channel {
		t.Fatalf("declarations have the numbers %d, %d, %d", outer, inner, channel)
	}
	for _, c := range []struct {
		what      string
		got, want int
	}{
		{"x in line 3", at(root, 3).Name.Decl, outer},
		{"x ahead of := in line 5", at(root, 5).Name.Decl, inner},
		{"x in the expr of line 5", at(root, 5).Expr.Left.Name.Decl, inner},
		{"c in line 8", at(root, 8).Channel.Decl, channel},
		{"x in line 8", at(root, 8).Expr.Name.Decl, outer},
		{"out in line 9", at(root, 9).Channel.Decl, tree.OutDecl},
		{"in in line 10", at(root, 10).Channel.Decl, tree.InDecl},
		{"x in line 10", at(root, 10).Name.Decl, outer},
	} {
		if c.got != c.want {
			t.Errorf("P4: %s means %d, want %d", c.what, c.got, c.want)
		}
	}
}

func TestNamesTellsTheFirstLine(t *testing.T) {
	root := read(t, "seq\n  skip\n  y := 1\n  z := 2")
	if line := check.Names(root); line != 3 {
		t.Errorf("P4: line %d, want 3", line)
	}
}

func TestShareTellsTheFirstLine(t *testing.T) {
	for _, c := range []struct {
		text string
		line int
	}{
		{"par\n  skip\n  out ! 1", 0},
		{"par\n  par\n    out ! 1\n    out ! 2\n  skip", 2},
		{"par\n  par\n    out ! 1\n    out ! 2\n  out ! 3", 1},
	} {
		root := read(t, c.text)
		check.Names(root)
		if line := check.Share(root); line != c.line {
			t.Errorf("P5: %q: line %d, want %d", c.text, line, c.line)
		}
	}
}
