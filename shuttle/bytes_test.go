package shuttle_test

import (
	"math/rand"
	"strings"
	"testing"

	"shuttle/api"
)

// wellTold holds an answer against what every answer to this text must keep to.
func wellTold(t *testing.T, text string) {
	t.Helper()
	got := checked(text)
	count := strings.Count(text, "\n") + 1
	least, most := 1, count
	switch got.errno {
	case api.ErrText:
		most = count + 1
	case api.OK, api.ErrLong:
		least, most = 0, 0
	case api.ErrDeep, api.ErrName, api.ErrShare:
	default:
		t.Errorf("P1: Check(%.200q) = %d", text, got)
	}
	if got.line < least || got.line > most {
		t.Errorf("P3 to P5: Check(%.200q) = %d: a text of %d lines", text, got, count)
	}
	if (got.errno == api.ErrLong) != (len(text) > api.MaxText) {
		t.Errorf("P3: Check(%.200q) = %d: a text of %d bytes", text, got, len(text))
	}
	if again := checked(text); again != got {
		t.Errorf("P2: Check(%.200q) = %d, then %d", text, got, again)
	}
}

const sample = "var x\n  chan c\n    par\n      c ! (1 + 22) * 3\n      seq\n        c ? x\n        if\n          when x\n            wait 7\n\n      alt\n        on 0 & in ? y\n          stop"

func TestAnyBytes(t *testing.T) {
	for a := range 256 {
		for b := range 256 {
			wellTold(t, string([]byte{byte(a), byte(b)}))
		}
	}
	for place := range len(sample) {
		wellTold(t, sample[:place])
		wellTold(t, sample[:place]+sample[place+1:])
		for b := range 256 {
			wellTold(t, sample[:place]+string([]byte{byte(b)})+sample[place:])
			wellTold(t, sample[:place]+string([]byte{byte(b)})+sample[place+1:])
		}
	}
}

func TestAnyTokens(t *testing.T) {
	r := rand.New(rand.NewSource(1))
	pieces := strings.Split("skip|stop|wait|seq|par|pri|while|if|when|alt|on|var|chan|in|out|x|c|sixsix|sevenss|0|1234567|12345678|:=|:|!|?|+|-|*|/|%|=|<|>|(|)|&| |  |\n|\n  |\n    |\n      |\xc3\xa9|\x00", "|")
	for range 50000 {
		text := ""
		for range r.Intn(60) {
			text += pieces[r.Intn(len(pieces))] + " "[r.Intn(2):]
		}
		wellTold(t, text)
	}
	for range 2000 {
		text := make([]byte, r.Intn(1000))
		r.Read(text)
		wellTold(t, string(text))
	}
}
