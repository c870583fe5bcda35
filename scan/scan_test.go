package scan_test

import (
	"slices"
	"testing"

	"shuttle/scan"
)

// tokens cuts a line until it is at its end or wrong; that last token is told too.
func tokens(line string) []scan.Token {
	var all []scan.Token
	for {
		var t scan.Token
		t, line = scan.Next(line)
		all = append(all, t)
		if t.Kind == scan.End || t.Kind == scan.Wrong {
			return all
		}
	}
}

func word(text string) scan.Token   { return scan.Token{Kind: scan.Word, Text: text} }
func number(text string) scan.Token { return scan.Token{Kind: scan.Number, Text: text} }
func sign(text string) scan.Token   { return scan.Token{Kind: scan.Sign, Text: text} }

var (
	end   = scan.Token{Kind: scan.End}
	wrong = scan.Token{Kind: scan.Wrong}
)

func TestTokens(t *testing.T) {
	for _, c := range []struct {
		line string
		want []scan.Token
	}{
		{"", []scan.Token{end}},
		{"   ", []scan.Token{end}},
		{"skip", []scan.Token{word("skip"), end}},
		{"skip  ", []scan.Token{word("skip"), end}},
		{"x:=1", []scan.Token{word("x"), sign(":="), number("1"), end}},
		{"x  :=  1 ", []scan.Token{word("x"), sign(":="), number("1"), end}},
		{"wait12ab", []scan.Token{word("wait"), number("12"), word("ab"), end}},
		{"abcdef", []scan.Token{word("abcdef"), end}},
		{"abcdefg", []scan.Token{wrong}},
		{"1234567", []scan.Token{number("1234567"), end}},
		{"12345678", []scan.Token{wrong}},
		{"00000000", []scan.Token{wrong}},
		{"x : = 1", []scan.Token{word("x"), wrong}},
		{":", []scan.Token{wrong}},
		{"=:", []scan.Token{sign("="), wrong}},
		{"::=", []scan.Token{wrong}},
		{":==", []scan.Token{sign(":="), sign("="), end}},
		{"aB", []scan.Token{word("a"), wrong}},
		{"a\t", []scan.Token{word("a"), wrong}},
		{"a\r", []scan.Token{word("a"), wrong}},
		{"é", []scan.Token{wrong}},
	} {
		if got := tokens(c.line); !slices.Equal(got, c.want) {
			t.Errorf("tokens of %q: %v, want %v", c.line, got, c.want)
		}
	}
}

func TestEveryByte(t *testing.T) {
	const allowed = "abcdefghijklmnopqrstuvwxyz0123456789!?+-*/%=<>()& "
	right := map[byte]int{}
	for i := range len(allowed) {
		right[allowed[i]] = 1
	}
	for b := range 256 {
		token, _ := scan.Next(string([]byte{byte(b)}))
		if (token.Kind == scan.Wrong) != (right[byte(b)] == 0) {
			t.Errorf("byte %d is told as kind %d", b, token.Kind)
		}
	}
}
