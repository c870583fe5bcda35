package shuttle_test

import (
	"regexp"
	"strings"
	"testing"

	"shuttle/api"
)

// exprPattern is the grammar of an expr with so many brackets in one another,
// for tokens that stand with one blank between them.
func exprPattern(nest int) string {
	operand := "(?:x|1)"
	if nest > 0 {
		operand = `(?:x|1|\( ` + exprPattern(nest-1) + ` \))`
	}
	return "(?:" + operand + "(?: [+=] " + operand + ")?)"
}

// pattern is the grammar of a line, by what stands above it.
func pattern(above string) *regexp.Regexp {
	e := exprPattern(api.MaxNest)
	line := "skip|x := " + e + "|(?:x|out) ! " + e + `|(?:x|in) \? x|wait ` + e + "|var x"
	switch above {
	case "if":
		line = "when " + e
	case "alt":
		line = "on (?:" + e + ` & )?(?:x|in) \? x`
	}
	return regexp.MustCompile("^(?:" + line + ")$")
}

// each hands over all rows of at most so many tokens, with blanks between.
func each(most int, row string, do func(string)) {
	do(row)
	if most == 0 {
		return
	}
	for _, token := range []string{"skip", "x", "1", "(", ")", "+", "=", ":=", "!", "?", "&", "in", "out", "wait", "var", "when", "on"} {
		each(most-1, strings.TrimLeft(row+" "+token, " "), do)
	}
}

// inLine tells the error that P3 has for the line, or OK if it has none there.
func inLine(text string, line int) api.Errno {
	got := checked(text)
	if got.line == line && (got.errno == api.ErrText || got.errno == api.ErrDeep) {
		return got.errno
	}
	return api.OK
}

func TestAllShortLines(t *testing.T) {
	for _, above := range []string{"", "if", "alt"} {
		right, ahead, number := pattern(above), "", 1
		if above != "" {
			ahead, number = above+"\n  ", 2
		}
		each(4, "", func(row string) {
			want := api.ErrText
			if row == "" || right.MatchString(row) {
				want = api.OK
			}
			for _, text := range []string{ahead + row, ahead + row + "  "} {
				if got := inLine(text, number); got != want {
					t.Errorf("P3: %q has the error %d in line %d, want %d", text, got, number, want)
				}
			}
		})
	}
}

// mayOpen tells whether a bracket may open behind a row: there, and only
// there, may a number stand too, and few tokens are enough to end the line.
func mayOpen(right *regexp.Regexp, row string) bool {
	for closed := range api.MaxNest + 1 {
		for _, end := range []string{"", " & in ? x"} {
			text := strings.TrimLeft(row+" 1", " ") + strings.Repeat(" )", closed) + end
			if right.MatchString(text) {
				return true
			}
		}
	}
	return false
}

func TestTooManyBracketsBehindAllShortRows(t *testing.T) {
	for _, above := range []string{"", "if", "alt"} {
		right, ahead, number := pattern(above), "", 1
		if above != "" {
			ahead, number = above+"\n  ", 2
		}
		each(3, "", func(row string) {
			want := api.ErrText
			if mayOpen(right, row) {
				want = api.ErrDeep
			}
			text := ahead + strings.TrimLeft(row+" (((((", " ")
			if got := inLine(text, number); got != want {
				t.Errorf("P3: %q has the error %d in line %d, want %d", text, got, number, want)
			}
		})
	}
}

type shape struct {
	word  string
	depth int
}

// firstWrong reads lines top down by the grammar's table, and tells which one
// is wrong first; the number of lines if they end too soon; or -1.
func firstWrong(rows []shape) int {
	next, wrong := below(rows, 0, 0, "")
	if wrong < 0 && next < len(rows) {
		return next
	}
	return wrong
}

func below(rows []shape, at, depth int, above string) (next, wrong int) {
	if at == len(rows) {
		return at, at
	}
	branch := map[string]string{"if": "when 1", "alt": "on in ? x"}[above]
	word := rows[at].word
	isBranch := word == "when 1" || word == "on in ? x"
	if rows[at].depth != depth || branch != "" && word != branch || branch == "" && isBranch {
		return at, at
	}
	count := map[string]int{"skip": 0, "while 1": 1, "when 1": 1, "on in ? x": 1, "pri": 2, "seq": 1000, "if": 1000, "alt": 1000}[word]
	at++
	for range count {
		if count == 1000 && (at == len(rows) || rows[at].depth <= depth) {
			break
		}
		if at, wrong = below(rows, at, depth+1, word); wrong >= 0 {
			return at, wrong
		}
	}
	return at, -1
}

func written(rows []shape) string {
	all := make([]string, len(rows))
	for i, row := range rows {
		all[i] = in(row.depth) + row.word
	}
	return strings.Join(all, "\n")
}

// extend tries all lines behind those, and goes on with those that are right so far.
func extend(t *testing.T, rows []shape, most int) {
	for _, word := range []string{"skip", "seq", "pri", "while 1", "if", "when 1", "alt", "on in ? x"} {
		for depth := range 4 {
			longer := append(rows[:len(rows):len(rows)], shape{word, depth})
			wrong, text := firstWrong(longer), written(longer)
			want := answer{api.OK, 0}
			if wrong >= 0 {
				want = answer{api.ErrText, wrong + 1}
			}
			got := checked(text)
			if got.errno == api.ErrName || got.errno == api.ErrShare {
				got = answer{api.OK, 0}
			}
			if got != want {
				t.Errorf("P3: Check(%q) = %d, want %d", text, got, want)
			}
			if most > 1 && (wrong < 0 || wrong == len(longer)) {
				extend(t, longer, most-1)
			}
		}
	}
}

func TestAllShortTexts(t *testing.T) { extend(t, nil, 6) }
