package shuttle_test

import (
	"math/rand"
	"strings"
	"testing"

	"shuttle/api"
	"shuttle/shuttle"
)

// wellTold holds an answer against what every answer to this text must keep to.
func wellTold(t *testing.T, text string) {
	t.Helper()
	got := checked(text)
	count := strings.Count(text, "\n") + 1
	least, most := 1, count
	switch got.errno {
	case api.ErrText:
		most = count + 1
	case api.OK, api.ErrLong:
		least, most = 0, 0
	case api.ErrDeep, api.ErrName, api.ErrShare:
	default:
		t.Errorf("P1: Check(%.200q) = %d", text, got)
	}
	if got.line < least || got.line > most {
		t.Errorf("P3 to P5: Check(%.200q) = %d: a text of %d lines", text, got, count)
	}
	if (got.errno == api.ErrLong) != (len(text) > api.MaxText) {
		t.Errorf("P3: Check(%.200q) = %d: a text of %d bytes", text, got, len(text))
	}
	if again := checked(text); again != got {
		t.Errorf("P2: Check(%.200q) = %d, then %d", text, got, again)
	}
	m, errno, line := shuttle.Load(text)
	if loaded := (answer{errno, line}); loaded != got || (m != nil) != (errno == api.OK) {
		t.Errorf("P6: Load(%.200q) = %v, %d, but Check %d", text, m, loaded, got)
	}
	if m != nil {
		wellRun(t, m, text)
	}
}

// wellRun holds what a machine tells against what every machine must keep to.
func wellRun(t *testing.T, m *shuttle.Machine, text string) {
	t.Helper()
	if m.Time() != 0 {
		t.Errorf("P6: %.200q: the time is %d at first", text, m.Time())
	}
	for _, steps := range []int{least, -1, 0, 1, 0, 7, 30, 1} {
		time := m.Time()
		done, stands := m.Run(steps)
		if done < 0 || done > max(steps, 0) || stands < api.Ready || stands > api.Faulty {
			t.Errorf("P7: %.200q: Run(%d) = %d, %d", text, steps, done, stands)
		}
		if done < steps && stands == api.Ready {
			t.Errorf("P7: %.200q: Run(%d) = %d, and more could be done", text, steps, done)
		}
		if m.Time() < time || steps <= 0 && m.Time() != time {
			t.Errorf("P7: %.200q: behind Run(%d) the time is %d, and was %d", text, steps, m.Time(), time)
		}
		if out := m.Out(); len(out) > done {
			t.Errorf("P8: %.200q: Out() = %v by %d steps", text, out, done)
		}
		m.Feed(steps)
	}
}

const sample = "var x\n  chan c\n    par\n      c ! (1 + 22) * 3\n      seq\n        c ? x\n        if\n          when x\n            wait 7\n\n      alt\n        on 0 & in ? y\n          stop"

func TestAnyBytes(t *testing.T) {
	for a := range 256 {
		for b := range 256 {
			wellTold(t, string([]byte{byte(a), byte(b)}))
		}
	}
	for place := range len(sample) {
		wellTold(t, sample[:place])
		wellTold(t, sample[:place]+sample[place+1:])
		for b := range 256 {
			wellTold(t, sample[:place]+string([]byte{byte(b)})+sample[place:])
			wellTold(t, sample[:place]+string([]byte{byte(b)})+sample[place+1:])
		}
	}
}

func TestAnyTokens(t *testing.T) {
	r := rand.New(rand.NewSource(1))
	pieces := strings.Split("skip|stop|wait|seq|par|pri|while|if|when|alt|on|var|chan|in|out|x|c|sixsix|sevenss|0|1234567|12345678|:=|:|!|?|+|-|*|/|%|=|<|>|(|)|&| |  |\n|\n  |\n    |\n      |\xc3\xa9|\x00", "|")
	for range 50000 {
		text := ""
		for range r.Intn(60) {
			text += pieces[r.Intn(len(pieces))] + " "[r.Intn(2):]
		}
		wellTold(t, text)
	}
	for range 2000 {
		text := make([]byte, r.Intn(1000))
		r.Read(text)
		wellTold(t, string(text))
	}
}
