package shuttle_test

import (
	"strings"
	"testing"

	"shuttle/api"
	"shuttle/shuttle"
)

func TestExampleOfPar(t *testing.T) {
	h := load(t, "par", "  skip", "  seq", "    wait 5", "    out ! 2")
	h.run(9, 4, api.Ended)
	h.out(2)
	h.at(5)
}

func TestParOfNothingOfOneAndOfMany(t *testing.T) {
	h := load(t, "par")
	h.run(0, 0, api.Ready)
	h.run(1, 1, api.Ended)
	load(t, "par").run(9, 1, api.Ended)
	h = load(t, "par", "  out ! 5")
	h.run(1, 1, api.Ready)
	h.out()
	h.run(1, 1, api.Ready)
	h.out(5)
	h.run(0, 0, api.Ready)
	h.run(1, 0, api.Ended)
	for count := range 40 {
		text := "par" + strings.Repeat("\n  skip", count)
		load(t, text).run(99, 1+count, api.Ended)
		h := load(t, text)
		for range count {
			h.run(1, 1, api.Ready)
		}
		if count > 0 {
			h.run(1, 1, api.Ready)
			h.run(0, 0, api.Ready)
			h.run(-1, 0, api.Ready)
			h.run(1, 0, api.Ended)
		}
	}
	// Those that have no steps come to their ends as soon as they are current.
	load(t, "par", "  seq", "  var x", "    seq", "  chan c", "    seq").run(2, 1, api.Ended)
	h = load(t, "par", "  seq", "  seq")
	h.run(1, 1, api.Ready)
	h.run(0, 0, api.Ready)
	h.run(1, 0, api.Ended)
	// In one another.
	load(t, "par", "  par", "    par", "    par", "      skip", "  par", "    skip", "    skip").run(99, 8, api.Ended)
}

// Of two processes one is faulty: what came out ahead of that tells which of
// them was first, and how far it went.
func TestWhoIsFirst(t *testing.T) {
	for _, c := range []struct {
		text string
		done int
		out  []int
	}{
		{"par\n  out ! 1\n  wait 1 / 0", 3, []int{1}},
		{"par\n  wait 1 / 0\n  out ! 1", 2, nil},
		{"par\n  skip\n  wait 1 / 0\n  out ! 1", 3, nil},
		// The current one goes on until it waits.
		{"par\n  seq\n    out ! 1\n    out ! 2\n    wait 0\n    out ! 3\n  wait 1 / 0", 6, []int{1, 2, 3}},
		{"par\n  seq\n    out ! 1\n    wait 1\n    out ! 2\n  wait 1 / 0", 4, []int{1}},
		{"par\n  seq\n    out ! 1\n    stop\n  wait 1 / 0", 4, []int{1}},
		{"par\n  seq\n    out ! 1\n    if\n      when 0\n        skip\n  wait 1 / 0", 4, []int{1}},
		{"par\n  seq\n    out ! 1\n    alt\n  wait 1 / 0", 4, []int{1}},
		// A par of nothing goes on at once, one of something doesn't.
		{"par\n  seq\n    par\n    out ! 1\n  wait 1 / 0", 4, []int{1}},
		{"par\n  seq\n    par\n      seq\n    out ! 1\n  wait 1 / 0", 3, nil},
		// Whom a par begins is behind those that stand in the line already.
		{"par\n  par\n    out ! 1\n  wait 1 / 0", 3, nil},
		// Who began a par that is at its end is behind those in the line.
		{"par\n  seq\n    par\n      skip\n    out ! 1\n  seq\n    par\n      seq\n        skip\n        wait 1 / 0", 6, nil},
		{"par\n  seq\n    par\n      skip\n    out ! 1\n  seq\n    par\n      skip\n    wait 1 / 0", 7, []int{1}},
		// Who writes behind its reader goes on; the reader is at the end of the line.
		{"chan c\n  var x\n    par\n      seq\n        c ? x\n        out ! x\n      seq\n        c ! 1\n        skip\n        skip\n        wait 1 / 0", 6, nil},
		{"chan c\n  var x\n    par\n      seq\n        c ? x\n        out ! x\n      c ! 1\n      wait 1 / 0", 4, nil},
		{"chan c\n  var x\n    par\n      seq\n        c ? x\n        out ! x\n      seq\n        c ! 1\n        wait 1\n        wait 1 / 0", 6, []int{1}},
		// Who reads behind its writer goes on; the writer is at the end of the line.
		{"chan c\n  var x\n    par\n      seq\n        c ! 1\n        out ! 1\n      seq\n        c ? x\n        skip\n        skip\n        wait 1 / 0", 6, nil},
		{"chan c\n  var x\n    par\n      seq\n        c ! 1\n        out ! 1\n      c ? x\n      wait 1 / 0", 4, nil},
		{"chan c\n  var x\n    par\n      seq\n        c ! 1\n        out ! 1\n      seq\n        c ? x\n        wait 1\n        wait 1 / 0", 6, []int{1}},
	} {
		h := load(t, c.text)
		h.run(99, c.done, api.Faulty)
		h.run(99, 0, api.Faulty)
		h.out(c.out...)
	}
}

func TestUrgent(t *testing.T) {
	for _, c := range []struct {
		text string
		done int
		out  []int
	}{
		{"pri\n  out ! 1\n  wait 1 / 0", 3, []int{1}},
		{"pri\n  wait 1 / 0\n  out ! 1", 2, nil},
		// The first place is urgent, also where it is behind others that are not.
		{"par\n  pri\n    out ! 1\n    skip\n  wait 1 / 0", 4, []int{1}},
		{"par\n  pri\n    skip\n    out ! 1\n  wait 1 / 0", 4, nil},
		{"par\n  skip\n  skip\n  pri\n    wait 1 / 0\n    skip\n  out ! 1", 5, nil},
		// Who is urgent does not stay behind those that are not, when it wakes with them.
		{"pri\n  seq\n    wait 5\n    wait 1 / 0\n  seq\n    wait 5\n    out ! 1", 4, nil},
		{"par\n  seq\n    wait 5\n    out ! 1\n  pri\n    seq\n      wait 5\n      wait 1 / 0\n    seq", 5, nil},
		// The current one goes on, even where one that is urgent could.
		{"chan c\n  var x\n    pri\n      seq\n        c ? x\n        wait 1 / 0\n      seq\n        c ! 1\n        out ! 1\n        out ! 2", 6, []int{1, 2}},
		// Who writes to an urgent one and then waits lets it go ahead of all others.
		{"chan c\n  var x\n    pri\n      seq\n        c ? x\n        wait 1 / 0\n      par\n        seq\n          c ! 1\n          stop\n        out ! 1", 6, nil},
		// Those that an urgent one begins are urgent, in any depth.
		{"pri\n  par\n    skip\n    par\n      out ! 1\n  wait 1 / 0", 6, []int{1}},
		{"pri\n  pri\n    skip\n    out ! 1\n  wait 1 / 0", 5, []int{1}},
		{"pri\n  pri\n    skip\n    wait 1 / 0\n  out ! 1", 4, nil},
		// Who begins an urgent one isn't urgent by that, neither is the second one of a pri.
		{"par\n  seq\n    pri\n      skip\n      skip\n    out ! 1\n  seq\n    skip\n    par\n      par\n        skip\n    wait 1 / 0", 10, []int{1}},
		{"par\n  seq\n    pri\n      skip\n      seq\n    out ! 1\n  wait 1 / 0", 4, nil},
	} {
		h := load(t, c.text)
		h.run(99, c.done, api.Faulty)
		h.out(c.out...)
	}
	h := load(t, "pri", "  skip", "  skip")
	h.run(3, 3, api.Ready)
	h.run(1, 0, api.Ended)
	// Who is fed goes to its own line: ahead of those that are not urgent.
	h = load(t, "var x", "  pri", "    seq", "      in ? x", "      wait 1 / 0", "    par", "      stop", "      out ! 1")
	h.run(4, 4, api.Ready)
	h.Feed(1)
	h.run(99, 1, api.Faulty)
	h.out()
	h = load(t, "var x", "  pri", "    stop", "    par", "      seq", "        in ? x", "        wait 1 / 0", "      out ! 1")
	h.run(4, 4, api.Ready)
	h.Feed(1)
	h.run(99, 2, api.Faulty)
	h.out(1)
}

func TestWrongTextsBesideOneAnother(t *testing.T) {
	for _, c := range []struct {
		text string
		want answer
	}{
		{"pri", answer{api.ErrText, 2}}, {"pri\n  skip", answer{api.ErrText, 3}}, {"pri\n  skip\n  skip\n  skip", answer{api.ErrText, 4}},
		{"alt\n  skip", answer{api.ErrText, 2}}, {"var x\n  alt\n    on in ? x", answer{api.ErrText, 4}}, {"var x\n  alt\n    on in ? x\n      skip\n      skip", answer{api.ErrText, 5}},
		{"par\n  on in ? x", answer{api.ErrText, 2}}, {"var x\n  alt\n    on out ? x\n      skip", answer{api.ErrText, 3}}, {"in ! 1", answer{api.ErrText, 1}},
		{"chan c", answer{api.ErrText, 2}}, {"chan in\n  skip", answer{api.ErrText, 1}}, {"par skip", answer{api.ErrText, 1}},
		{"c ! 1", answer{api.ErrName, 1}}, {"chan c\n  c ? c", answer{api.ErrName, 2}}, {"chan c\n  c := 1", answer{api.ErrName, 2}}, {"chan c\n  out ! c", answer{api.ErrName, 2}},
		{"seq\n  chan c\n    skip\n  c ! 1", answer{api.ErrName, 4}}, {"var x\n  alt\n    on y & in ? x\n      skip", answer{api.ErrName, 3}},
		{"chan c\n  par\n    c ! 1\n    c ! 2", answer{api.ErrShare, 2}}, {"var x\n  var y\n    pri\n      in ? x\n      in ? y", answer{api.ErrShare, 3}},
		{"var x\n  chan c\n    par\n      seq\n      alt\n        on in ? x\n          skip\n      alt\n        on c ? x\n          skip", answer{api.ErrShare, 3}},
		{"var x\n  par\n    skip\n    par\n      wait x\n      x := 1", answer{api.ErrShare, 4}},
	} {
		m, errno, line := shuttle.Load(c.text)
		if got := (answer{errno, line}); m != nil || got != c.want {
			t.Errorf("P6: Load(%q) = %v, %d, want %d", c.text, m, got, c.want)
		}
	}
}

func TestChannels(t *testing.T) {
	// All numbers go through.
	for _, n := range []int{0, 1, -1, least, most} {
		h := load(t, "chan c", "  var x", "    var y", "      par", "        seq", "          in ? x", "          c ! x", "        seq", "          c ? y", "          out ! y")
		h.Feed(n)
		h.run(99, 5, api.Ended)
		h.out(n)
	}
	// A writer that comes first is told only when its number is read.
	h := load(t, "chan c", "  var x", "    par", "      seq", "        c ! 1", "        c ! 2", "        out ! 9", "      seq", "        wait 5", "        c ? x", "        wait x", "        c ? x", "        wait x")
	h.run(3, 3, api.Ready)
	h.at(0)
	h.run(1, 1, api.Ready)
	h.at(5)
	h.out()
	h.run(99, 5, api.Ended)
	h.at(8)
	h.out(9)
	// One process can't talk to itself.
	load(t, "chan c", "  var x", "    seq", "      c ! 1", "      c ? x").run(99, 1, api.Stopped)
	load(t, "chan c", "  var x", "    seq", "      c ? x", "      c ! 1").run(99, 1, api.Stopped)
	// A channel is the nearest one of its name.
	load(t, "chan c", "  var x", "    par", "      c ! 1", "      chan c", "        c ? x").run(99, 3, api.Stopped)
	h = load(t, "chan c", "  var x", "    par", "      seq", "        c ! 1", "        chan c", "          c ! 2", "      seq", "        c ? x", "        out ! x", "        c ? x")
	h.run(99, 6, api.Stopped)
	h.out(1)
	// The ends of a channel may change hands.
	h = load(t, "chan c", "  var x", "    var y", "      seq", "        par", "          c ! 1", "          c ? x", "        par", "          seq", "            c ? y", "            out ! y", "          c ! x + 1")
	h.run(99, 3+4, api.Ended)
	h.out(2)
}

func TestAllWaitForOneAnother(t *testing.T) {
	round := []string{"chan c", "  chan d", "    chan e", "      var x", "        var y", "          var z", "            par"}
	for _, c := range []struct {
		ways   [3][2]string
		done   int
		stands int
	}{
		{[3][2]string{{"c ? x", "d ! 1"}, {"d ? y", "e ! 1"}, {"e ? z", "c ! 1"}}, 4, api.Stopped},
		{[3][2]string{{"d ! 1", "c ? x"}, {"e ! 1", "d ? y"}, {"c ! 1", "e ? z"}}, 4, api.Stopped},
		{[3][2]string{{"d ! 1", "c ? x"}, {"d ? y", "e ! 1"}, {"e ? z", "c ! 1"}}, 7, api.Ended},
		{[3][2]string{{"in ? x", "d ! 1"}, {"d ? y", "e ! 1"}, {"e ? z", "c ! 1"}}, 4, api.Wants},
		{[3][2]string{{"wait 1", "d ! 1"}, {"d ? y", "e ! 1"}, {"e ? z", "c ! 1"}}, 7, api.Stopped},
		{[3][2]string{{"skip", "stop"}, {"stop", "skip"}, {"e ? z", "skip"}}, 5, api.Stopped},
	} {
		text := append([]string{}, round...)
		for _, way := range c.ways {
			text = append(text, in(7)+"seq", in(8)+way[0], in(8)+way[1])
		}
		h := load(t, text...)
		h.run(99, c.done, c.stands)
		h.run(99, 0, c.stands)
	}
}

func TestAltThatCanReadAtOnce(t *testing.T) {
	// Of several the first one, not the one that was written to first.
	h := load(t, "chan c", "  chan d", "    var x", "      par", "        c ! 1", "        d ! 2", "        seq", "          wait 1", "          alt", "            on d ? x", "              out ! x", "            on c ? x", "              out ! x", "          skip")
	h.run(99, 7, api.Stopped)
	h.out(2)
	// The expr decides which of them are asked.
	for guards, want := range map[[2]string]int{{"1", "1"}: 10, {"0", "1"}: 110, {"2 - 3", "0"}: 10, {"1 = 2", "5"}: 110, {"x", "1"}: 110, {"x = 0", "1"}: 10, {"0", "0"}: 210} {
		h := load(t, "var x", "  alt", "    on "+guards[0]+" & in ? x", "      out ! x", "    on "+guards[1]+" & in ? x", "      out ! x + 100", "    on in ? x", "      out ! x + 200")
		h.Feed(10)
		h.run(9, 2, api.Ended)
		h.out(want)
	}
	// It goes on at once; the writer does so at the end of the line.
	h = load(t, "chan c", "  var x", "    par", "      seq", "        c ! 1", "        wait 1 / 0", "      alt", "        on c ? x", "          seq", "            out ! x", "            out ! 5")
	h.run(99, 6, api.Faulty)
	h.out(1, 5)
	// From `in` it takes the first that came in, and leaves the others.
	h = load(t, "chan c", "  var x", "    while 1", "      alt", "        on c ? x", "          skip", "        on in ? x", "          out ! x")
	for n := range 5 {
		h.Feed(n)
	}
	h.run(99, 5*3+2, api.Wants)
	h.out(0, 1, 2, 3, 4)
	// All exprs are asked, also behind a branch that can be done.
	h = load(t, "var x", "  alt", "    on in ? x", "      out ! 1", "    on 1 / x & in ? x", "      out ! 2")
	h.Feed(1)
	h.run(9, 1, api.Faulty)
	h.out()
	// They are asked ahead of the reading.
	h = load(t, "var x", "  alt", "    on in ? x", "      out ! x", "    on x & in ? x", "      stop")
	h.Feed(3)
	h.run(9, 2, api.Ended)
	h.out(3)
}

func TestAltThatWaits(t *testing.T) {
	// Who writes finds it, whichever of its channels that is.
	for channel, want := range map[string]int{"c": 107, "d": 207} {
		h := load(t, "chan c", "  chan d", "    var x", "      par", "        alt", "          on c ? x", "            out ! x + 100", "          on d ? x", "            out ! x + 200", "        "+channel+" ! 7")
		h.run(2, 2, api.Ready)
		h.run(1, 1, api.Ready)
		h.out()
		h.run(9, 1, api.Ended)
		h.out(want)
	}
	// It goes to the end of its line.
	h := load(t, "chan c", "  var x", "    par", "      alt", "        on c ? x", "          out ! x", "      c ! 7", "      wait 1 / 0")
	h.run(99, 4, api.Faulty)
	h.out()
	// If two have the same channel, the first open one is done.
	for guards, want := range map[[2]string]int{{"1", "1"}: 1, {"0", "1"}: 2, {"1", "0"}: 1, {"0", "0"}: 3} {
		h := load(t, "chan c", "  var x", "    par", "      alt", "        on "+guards[0]+" & c ? x", "          out ! 1", "        on "+guards[1]+" & c ? x", "          out ! 2", "        on c ? x", "          out ! 3", "      c ! 7")
		h.run(99, 4, api.Ended)
		h.out(want)
		h = load(t, "var x", "  alt", "    on "+guards[0]+" & in ? x", "      out ! 1", "    on "+guards[1]+" & in ? x", "      out ! 2", "    on in ? x", "      out ! 3")
		h.run(99, 1, api.Wants)
		h.Feed(7)
		h.run(99, 1, api.Ended)
		h.out(want)
	}
	// Each branch reads into its own variable.
	h = load(t, "var x", "  var y", "    seq", "      x := 1", "      alt", "        on in ? y", "          out ! (x * 10) + y")
	h.run(99, 2, api.Wants)
	h.Feed(5)
	h.run(99, 1, api.Ended)
	h.out(15)
	// A branch that is not open isn't waited for.
	h = load(t, "chan c", "  var x", "    par", "      alt", "        on 0 & c ? x", "          skip", "        on in ? x", "          skip", "      seq", "        c ! 1", "        out ! 1")
	h.run(99, 3, api.Wants)
	h.out()
	h = load(t, "chan c", "  var x", "    alt", "      on x & in ? x", "        skip", "      on c ? x", "        skip")
	h.run(99, 1, api.Stopped)
	h.Feed(1)
	h.run(99, 0, api.Stopped)
	// An alt of nothing, or of nothing that is open, waits for ever.
	for _, text := range []string{"alt", "var x\n  alt\n    on 0 & in ? x\n      skip", "var x\n  seq\n    alt\n      on x & in ? x\n        skip\n      on x > 0 & in ? x\n        skip\n    skip"} {
		h := load(t, text)
		h.Feed(1)
		h.run(9, 1, api.Stopped)
		h.Feed(1)
		h.run(9, 0, api.Stopped)
	}
}

// When one of its channels has been read from, an alt waits for none of the
// others any more.
func TestAltLeavesItsOtherChannels(t *testing.T) {
	h := load(t, "chan c", "  var x", "    par", "      seq", "        alt", "          on in ? x", "            out ! x", "          on c ? x", "            out ! x + 100", "        stop", "      c ! 7")
	h.run(3, 3, api.Ready)
	h.Feed(5)
	h.run(99, 2, api.Stopped)
	h.out(107)
	h = load(t, "chan c", "  var x", "    par", "      seq", "        alt", "          on in ? x", "            out ! x", "          on c ? x", "            out ! x + 100", "        stop", "      seq", "        wait 1", "        c ! 7", "        wait 1 / 0")
	h.run(3, 3, api.Ready)
	h.Feed(5)
	h.run(99, 3, api.Stopped)
	h.out(5)
	h.at(1)
	// Two that write while it stands in the line: the second one waits.
	h = load(t, "chan c", "  chan d", "    var x", "      par", "        while 1", "          alt", "            on c ? x", "              out ! x", "            on d ? x", "              out ! x", "        c ! 1", "        d ! 2")
	h.run(5, 5, api.Ready)
	h.out()
	h.run(99, 6, api.Stopped)
	h.out(1, 2)
}

func TestWhoWantsWhatComesIn(t *testing.T) {
	h := load(t, "var x", "  var y", "    par", "      while 1", "        seq", "          in ? x", "          out ! x", "      while y < 2", "        seq", "          y := y + 1", "          wait 5")
	h.run(3, 3, api.Ready)
	h.Feed(1)
	h.run(0, 0, api.Ready)
	h.run(99, 10, api.Wants)
	h.at(10)
	h.out(1)
	// Somebody waits for what comes in, though others wait for ever.
	h = load(t, "chan c", "  var x", "    par", "      c ! 1", "      stop", "      alt", "        on in ? x", "          skip")
	h.run(99, 4, api.Wants)
	h.Feed(1)
	h.run(99, 1, api.Stopped)
	// Feeding more than is wanted keeps the rest for who comes next.
	h = load(t, "var x", "  seq", "    par", "      in ? x", "    par", "      alt", "        on in ? x", "          out ! x", "    in ? x", "    out ! x")
	h.run(99, 2, api.Wants)
	for n := range 4 {
		h.Feed(n)
	}
	h.run(99, 5, api.Ended)
	h.out(1, 2)
}

func TestSleepers(t *testing.T) {
	// The longer one comes later, however they stand.
	for _, text := range []string{
		"chan c\n  var x\n    par\n      seq\n        wait 9\n        c ! 1\n      wait 4\n      seq\n        wait 2\n        c ? x\n        out ! x",
		"chan c\n  var x\n    par\n      wait 4\n      seq\n        wait 2\n        c ? x\n        out ! x\n      seq\n        wait 9\n        c ! 1",
	} {
		h := load(t, text)
		h.run(4, 4, api.Ready)
		h.at(0)
		h.run(1, 1, api.Ready)
		h.at(2)
		h.run(1, 1, api.Ready)
		h.at(9)
		h.run(99, 1, api.Ended)
		h.at(9)
		h.out(1)
	}
	// Time does not go on while somebody can.
	h := load(t, "var x", "  par", "    wait 1", "    while 1", "      x := x + 1")
	h.run(1000, 1000, api.Ready)
	h.at(0)
	h = load(t, "pri", "  seq", "    wait 1", "    par", "      wait 5", "      skip", "  skip")
	h.run(5, 5, api.Ready)
	h.at(1)
	h.run(1, 1, api.Ready)
	h.at(1)
	h.run(1, 0, api.Ended)
	h.at(6)
	// At the same time those wake first that fell asleep first.
	for _, c := range []struct {
		text string
		out  []int
	}{
		{"par\n  seq\n    wait 3\n    out ! 1\n  seq\n    wait 3\n    wait 1 / 0", []int{1}},
		{"par\n  seq\n    wait 3\n    wait 1 / 0\n  seq\n    wait 3\n    out ! 1", nil},
		{"par\n  seq\n    wait 1\n    wait 2\n    wait 1 / 0\n  seq\n    wait 3\n    out ! 1", []int{1}},
		{"par\n  seq\n    wait 2\n    wait 1\n    out ! 1\n  seq\n    wait 1\n    wait 2\n    wait 1 / 0", nil},
		{"par\n  seq\n    wait 3\n    wait 1 / 0\n  seq\n    wait 1\n    out ! 1\n    wait 2\n    out ! 2", []int{1}},
	} {
		h := load(t, c.text)
		if _, stands := h.Run(99); stands != api.Faulty {
			t.Errorf("P7: %q stands %d", c.text, stands)
		}
		h.at(3)
		h.out(c.out...)
	}
	// The first process is at its end only when the last one wakes.
	h = load(t, "par", "  wait 3", "  wait 1000000", "  wait 7")
	h.run(4, 4, api.Ready)
	h.run(1, 0, api.Ended)
	h.at(1000000)
	h = load(t, "par", "  wait 3", "  wait 1000001", "  wait 7")
	h.run(9, 3, api.Faulty)
	h.at(0)
}

func TestFaultInOneOfMany(t *testing.T) {
	for _, other := range []string{"skip", "wait 5", "wait 2", "stop", "out ! 1", "in ? y", "par", "alt"} {
		h := load(t, "var x", "  var y", "    par", "      seq", "        wait 2", "        wait 1 / x", "      seq", "        "+other, "        wait 9", "        out ! 5")
		if _, stands := h.Run(99); stands != api.Faulty {
			t.Errorf("P7: %q stands %d", h.text, stands)
		}
		h.Out()
		h.Feed(1)
		for _, steps := range []int{0, 1, -1, least, most} {
			h.run(steps, 0, api.Faulty)
		}
		h.at(2)
		h.out()
	}
	// Those in the line do not go on, neither does who is fed then.
	h := load(t, "var x", "  par", "    while 1", "      seq", "        in ? x", "        out ! x", "    wait 1 / 0", "    skip")
	h.run(9, 4, api.Faulty)
	h.Feed(1)
	h.run(9, 0, api.Faulty)
	h.out()
}

func TestFirstProcessAtItsEnd(t *testing.T) {
	h := load(t, "seq", "  par", "    out ! 1", "    wait 4", "  out ! 2", "  pri", "    wait 3", "    out ! 3")
	h.run(99, 7, api.Ended)
	h.at(7)
	h.out(1, 2, 3)
	for _, steps := range []int{0, 1, -1, least, most} {
		h.run(steps, 0, api.Ended)
	}
	h.Feed(1)
	h.run(9, 0, api.Ended)
	// It does not come to its end as long as one of those that it began does not.
	load(t, "par", "  skip", "  stop").run(99, 3, api.Stopped)
	load(t, "par", "  par", "    stop", "  skip").run(99, 4, api.Stopped)
	load(t, "var x", "  par", "    in ? x", "    skip").run(99, 3, api.Wants)
}
