// Package scan cuts a line into tokens, one at a time, so that who reads them
// never meets a wrong byte behind the place where the line first went wrong.
package scan

import (
	"strings"

	"shuttle/api"
)

// Kind tells what a token is.
type Kind int

const (
	End    Kind = iota // nothing follows in the line
	Wrong              // no token begins here, or one that is too long
	Word               // letters
	Number             // digits
	Sign               // any of the signs
)

// Token is a piece of a line. At the End, and where it is Wrong, its text is empty.
type Token struct {
	Kind Kind
	Text string
}

const (
	becomes = ":="
	signs   = "!?+-*/%=<>()&"
)

// Next tells the first token of a line, and what stands behind that token.
func Next(line string) (Token, string) {
	line = strings.TrimLeft(line, " ")
	switch {
	case line == "":
		return Token{Kind: End}, ""
	case isLetter(line[0]):
		return run(line, Word, isLetter, api.MaxWord)
	case isDigit(line[0]):
		return run(line, Number, isDigit, api.MaxDigits)
	case strings.HasPrefix(line, becomes):
		return Token{Sign, becomes}, line[len(becomes):]
	case strings.IndexByte(signs, line[0]) >= 0:
		return Token{Sign, line[:1]}, line[1:]
	}
	return Token{Kind: Wrong}, ""
}

// run takes as many bytes as belong to the token; one above its bound is not
// cut in two, but wrong as a whole.
func run(line string, kind Kind, belongs func(byte) bool, most int) (Token, string) {
	size := 0
	for size < len(line) && belongs(line[size]) {
		size++
	}
	if size > most {
		return Token{Kind: Wrong}, ""
	}
	return Token{kind, line[:size]}, line[size:]
}

func isLetter(b byte) bool { return 'a' <= b && b <= 'z' }

func isDigit(b byte) bool { return '0' <= b && b <= '9' }
