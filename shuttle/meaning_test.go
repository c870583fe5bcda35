package shuttle_test

import (
	"math/rand"
	"regexp"
	"strings"
	"testing"

	"shuttle/api"
)

// writer makes texts that the grammar allows, out of few names, so that these
// often mean the wrong thing and are often shared.
type writer struct {
	*rand.Rand
	rows []string
}

func (w *writer) one(of ...string) string { return of[w.Intn(len(of))] }

func (w *writer) name() string { return w.one("x", "x", "x", "y", "c", "c", "d") }

func (w *writer) expr() string {
	switch w.Intn(4) {
	case 0:
		return w.one("x", "y")
	case 1:
		return "(1 + " + w.one("x", "y") + ") * 2"
	}
	return "1"
}

func (w *writer) line(depth int, text string) { w.rows = append(w.rows, in(depth)+text) }

func (w *writer) process(depth int) {
	kind := w.Intn(14)
	if depth > 6 {
		kind = w.Intn(5)
	}
	switch kind {
	case 0:
		w.line(depth, "skip")
	case 1:
		w.line(depth, w.one("x", "y")+" := "+w.expr())
	case 2:
		w.line(depth, w.one("c", "d", "out")+" ! "+w.expr())
	case 3:
		w.line(depth, w.one("c", "d", "in")+" ? "+w.one("x", "y"))
	case 4:
		w.line(depth, "wait "+w.expr())
	case 5:
		w.line(depth, "seq")
		w.some(depth, 3)
	case 6, 7:
		w.line(depth, "par")
		w.some(depth, 3)
	case 8:
		w.line(depth, "pri")
		w.process(depth + 1)
		w.process(depth + 1)
	case 9:
		w.line(depth, "while "+w.expr())
		w.process(depth + 1)
	case 10:
		w.line(depth, "alt")
		w.line(depth+1, "on "+w.one("", "x & ", "1 + y & ")+w.one("c", "d", "in")+" ? "+w.one("x", "y"))
		w.process(depth + 2)
	case 11:
		w.line(depth, "if")
		w.line(depth+1, "when "+w.expr())
		w.process(depth + 2)
	default:
		w.line(depth, w.one("var ", "chan ")+w.name())
		w.process(depth + 1)
	}
}

func (w *writer) some(depth, most int) {
	for range w.Intn(most + 1) {
		w.process(depth + 1)
	}
}

// text begins with the usual declarations, so that names are often right.
func (w *writer) text() string {
	w.rows = nil
	depth := 0
	for _, line := range []string{"var x", "var y", "chan c", "chan d"} {
		if w.Intn(30) > 0 {
			w.line(depth, line)
			depth++
		}
	}
	w.process(depth)
	return lines(w.rows...)
}

// stood is a name in a line, by how it stands there.
type stood struct {
	name, how string
}

var words = regexp.MustCompile("[a-z]+")

// namesOf finds the names of a line by their signs alone.
func namesOf(row string) []stood {
	row = strings.TrimLeft(row, " ")
	for _, word := range []string{"skip", "seq", "par", "pri", "alt", "if", "var ", "chan "} {
		if strings.HasPrefix(row, word) {
			return nil
		}
	}
	var all []stood
	for _, word := range []string{"on ", "wait ", "while ", "when "} {
		row = strings.TrimPrefix(row, word)
	}
	if guard, rest, ok := strings.Cut(row, " & "); ok {
		for _, name := range words.FindAllString(guard, -1) {
			all = append(all, stood{name, "asked"})
		}
		row = rest
	}
	if channel, name, ok := strings.Cut(row, " ? "); ok {
		return append(all, stood{channel, "read"}, stood{name, "given"})
	}
	if name, expr, ok := strings.Cut(row, " := "); ok {
		all, row = append(all, stood{name, "given"}), expr
	} else if channel, expr, ok := strings.Cut(row, " ! "); ok {
		all, row = append(all, stood{channel, "written"}), expr
	}
	for _, name := range words.FindAllString(row, -1) {
		all = append(all, stood{name, "asked"})
	}
	return all
}

func depthOf(row string) int { return (len(row) - len(strings.TrimLeft(row, " "))) / 2 }

// declared goes up from a line to the one that declares the name; -1 if there is none.
func declared(rows []string, at int, name string) int {
	depth := depthOf(rows[at])
	for up := at - 1; up >= 0; up-- {
		if depthOf(rows[up]) >= depth {
			continue
		}
		depth = depthOf(rows[up])
		row := strings.TrimLeft(rows[up], " ")
		if row == "var "+name || row == "chan "+name {
			return up
		}
	}
	return -1
}

func wrongName(rows []string) int {
	for i, row := range rows {
		for _, s := range namesOf(row) {
			if s.name == "in" || s.name == "out" {
				continue
			}
			must := "var"
			if s.how == "read" || s.how == "written" {
				must = "chan"
			}
			if up := declared(rows, i, s.name); up < 0 || !strings.HasPrefix(strings.TrimLeft(rows[up], " "), must) {
				return i + 1
			}
		}
	}
	return 0
}

// end tells where that what stands below a line is at its end.
func end(rows []string, at int) int {
	for i := at + 1; i < len(rows); i++ {
		if depthOf(rows[i]) <= depthOf(rows[at]) {
			return i
		}
	}
	return len(rows)
}

func sharedBy(rows []string, one, other int) bool {
	for i := one; i < end(rows, one); i++ {
		for j := other; j < end(rows, other); j++ {
			for _, a := range namesOf(rows[i]) {
				for _, b := range namesOf(rows[j]) {
					if a.name == b.name && declared(rows, i, a.name) == declared(rows, j, b.name) && clash(a.how, b.how) {
						return true
					}
				}
			}
		}
	}
	return false
}

func clash(a, b string) bool {
	return a == "given" || b == "given" || a == b && a != "asked"
}

func sharing(rows []string) int {
	for i, row := range rows {
		if word := strings.TrimLeft(row, " "); word != "par" && word != "pri" {
			continue
		}
		for one := i + 1; one < end(rows, i); one = end(rows, one) {
			for other := end(rows, one); other < end(rows, i); other = end(rows, other) {
				if sharedBy(rows, one, other) {
					return i + 1
				}
			}
		}
	}
	return 0
}

func TestManyTextsForNamesAndSharing(t *testing.T) {
	w := &writer{Rand: rand.New(rand.NewSource(2))}
	seen := map[api.Errno]int{}
	for range 60000 {
		text := w.text()
		if len(text) > api.MaxText || strings.Contains("\n"+text, "\n"+in(api.MaxDepth+1)) {
			continue
		}
		want := answer{api.OK, 0}
		if line := wrongName(w.rows); line > 0 {
			want = answer{api.ErrName, line}
		} else if line := sharing(w.rows); line > 0 {
			want = answer{api.ErrShare, line}
		}
		if got := checked(text); got != want {
			t.Fatalf("P4, P5: Check(%q) = %d, want %d", text, got, want)
		}
		wellTold(t, text)
		seen[want.errno]++
	}
	for _, errno := range []api.Errno{api.OK, api.ErrName, api.ErrShare} {
		if seen[errno] < 1000 {
			t.Errorf("only %d texts with the answer %d", seen[errno], errno)
		}
	}
	t.Log(seen)
}
