package shuttle_test

import (
	"slices"
	"strconv"
	"strings"
	"testing"

	"shuttle/api"
	"shuttle/shuttle"
)

const (
	most  = 1<<63 - 1
	least = -1 << 63
)

// held is a machine whose answers are held against what they must be.
type held struct {
	*shuttle.Machine
	t    *testing.T
	text string
}

func load(t *testing.T, l ...string) held {
	t.Helper()
	text := lines(l...)
	m, errno, line := shuttle.Load(text)
	if m == nil || errno != api.OK || line != 0 {
		t.Fatalf("P6: Load(%q) = %v, %d, %d", text, m, errno, line)
	}
	if time := m.Time(); time != 0 {
		t.Errorf("P6: %q: the time is %d at first", text, time)
	}
	return held{m, t, text}
}

func (h held) run(steps, done, stands int) {
	h.t.Helper()
	if gotDone, gotStands := h.Run(steps); gotDone != done || gotStands != stands {
		h.t.Errorf("P7: %q: Run(%d) = %d, %d, want %d, %d", h.text, steps, gotDone, gotStands, done, stands)
	}
}

func (h held) out(want ...int) {
	h.t.Helper()
	if got := h.Out(); !slices.Equal(got, want) {
		h.t.Errorf("P8: %q: Out() = %v, want %v", h.text, got, want)
	}
}

func (h held) at(time int) {
	h.t.Helper()
	if got := h.Time(); got != time {
		h.t.Errorf("P7: %q: Time() = %d, want %d", h.text, got, time)
	}
}

func TestLoad(t *testing.T) {
	for _, c := range []struct {
		text string
		want answer
	}{
		{strings.Repeat(" ", 801), answer{api.ErrLong, 0}}, {"", answer{api.ErrText, 2}}, {"skip\nskip", answer{api.ErrText, 2}}, {"var x", answer{api.ErrText, 2}},
		{in(11) + "skip", answer{api.ErrDeep, 1}}, {"seq\n  out ! (((((1", answer{api.ErrDeep, 2}}, {"x := 1", answer{api.ErrName, 1}}, {"var x\n  x ! 1", answer{api.ErrName, 2}},
		{"var x\n  par\n    x := 1\n    out ! x", answer{api.ErrShare, 2}}, {"pri\n  out ! 1\n  out ! 2", answer{api.ErrShare, 1}},
	} {
		m, errno, line := shuttle.Load(c.text)
		if got := (answer{errno, line}); m != nil || got != c.want {
			t.Errorf("P6: Load(%.40q) = %v, %d, want %d", c.text, m, got, c.want)
		}
	}
	load(t, "skip"+strings.Repeat("\n", 796))
	load(t, seqs(api.MaxDepth)+in(api.MaxDepth)+"skip")
}

func TestRunOfExamples(t *testing.T) {
	h := load(t, "var x", "  seq", "    in ? x", "    out ! x * 2")
	h.run(9, 1, api.Wants)
	h.Feed(21)
	h.run(9, 1, api.Ended)
	h.out(42)
	load(t, "out ! 1 / 0").run(5, 1, api.Faulty)
	load(t, "stop").run(5, 1, api.Stopped)
	load(t, "seq").run(5, 0, api.Ended)
}

func TestRunByNoneAndByFew(t *testing.T) {
	h := load(t, "seq", "  skip", "  out ! 5", "  skip")
	for _, steps := range []int{0, -1, -2, least} {
		h.run(steps, 0, api.Ready)
	}
	h.run(1, 1, api.Ready)
	h.out()
	h.run(0, 0, api.Ready)
	h.run(-1, 0, api.Ready)
	h.out()
	h.run(1, 1, api.Ready)
	h.out(5)
	h.run(1, 1, api.Ended)
	for _, steps := range []int{0, -1, 1, least, most} {
		h.run(steps, 0, api.Ended)
	}
	h.out()
	h.at(0)
}

func TestWhatNeedsNoStep(t *testing.T) {
	for _, text := range []string{"seq", "seq\n  seq\n  seq\n    seq", "var x\n  seq", "var x\n  var x\n    seq\n      var y\n        seq"} {
		for _, steps := range []int{0, -1, 1, least, most} {
			load(t, text).run(steps, 0, api.Ended)
		}
	}
	load(t, "seq", "  var x", "    seq", "      skip", "  seq").run(1, 1, api.Ended)
	load(t, "var x", "  if", "    when 1", "      var y", "        seq").run(1, 1, api.Ended)
	load(t, "while 0", "  stop").run(1, 1, api.Ended)
	h := load(t, "seq", "  out ! 1", "  out ! 1 / 0")
	h.run(1, 1, api.Ready)
	h.run(0, 0, api.Ready)
	h.run(1, 1, api.Faulty)
	// Who has read or has slept is in its line, and not at its end, until it is current.
	h = load(t, "var x", "  in ? x")
	h.run(1, 1, api.Wants)
	h.Feed(1)
	h.run(0, 0, api.Ready)
	h.run(-1, 0, api.Ready)
	h.run(1, 0, api.Ended)
	h = load(t, "wait 7")
	h.run(1, 1, api.Ready)
	h.run(0, 0, api.Ready)
	h.run(least, 0, api.Ready)
	h.at(0)
	h.run(1, 0, api.Ended)
	h.at(7)
	h = load(t, "wait 7")
	h.run(2, 1, api.Ended)
	h.at(7)
}

func TestEachLineIsOneStep(t *testing.T) {
	for _, c := range []struct {
		text         string
		done, stands int
	}{
		{"skip", 1, api.Ended}, {"stop", 1, api.Stopped}, {"out ! ((1 + 2) * (3 + 4)) - 5", 1, api.Ended}, {"var x\n  x := (x + 1) * 2", 1, api.Ended},
		{"wait 0", 1, api.Ended}, {"wait 3", 1, api.Ended}, {"var x\n  in ? x", 1, api.Wants}, {"if", 1, api.Stopped},
		{"if\n  when 0\n    skip\n  when 0\n    skip\n  when 2\n    seq", 1, api.Ended}, {"if\n  when 0\n    skip\n  when 0 - 1\n    skip\n  when 2\n    stop", 2, api.Ended},
		{"while 0\n  skip", 1, api.Ended}, {"var x\n  while x < 3\n    x := x + 1", 7, api.Ended}, {"var x\n  while 3 - x\n    seq\n      skip\n      x := x + 1\n      skip", 13, api.Ended},
		{"seq\n  skip\n  stop\n  skip", 2, api.Stopped}, {"seq\n  skip\n  wait 1\n  skip", 3, api.Ended},
	} {
		load(t, c.text).run(100, c.done, c.stands)
		load(t, c.text).run(c.done+1, c.done, c.stands)
		h := load(t, c.text)
		for range c.done - 1 {
			h.run(1, 1, api.Ready)
		}
		if done, _ := h.Run(1); done != 1 {
			t.Errorf("P7: %q: %d steps at last", c.text, done)
		}
		h.run(1, 0, c.stands)
	}
}

func TestWhile(t *testing.T) {
	h := load(t, "while 1", "  seq")
	h.run(1000, 1000, api.Ready)
	h.run(0, 0, api.Ready)
	h.run(100000, 100000, api.Ready)
	h = load(t, "var x", "  seq", "    while x - 2", "      seq", "        out ! x", "        x := x + 1", "    out ! 100 + x")
	h.run(100, 8, api.Ended)
	h.out(0, 1, 102)
	h = load(t, "var x", "  while (x + 1) % 3", "    x := x - 1")
	h.run(100, 3, api.Ended)
	load(t, "while 5 % 0", "  skip").run(5, 1, api.Faulty)
	// A variable is 0 again each time that its line is come to.
	h = load(t, "var i", "  while i < 3", "    seq", "      i := i + 1", "      var x", "        seq", "          x := x + i", "          out ! x")
	h.run(100, 13, api.Ended)
	h.out(1, 2, 3)
	// One in another one.
	h = load(t, "var i", "  while i < 3", "    seq", "      var j", "        while j < i", "          seq", "            out ! (i * 10) + j", "            j := j + 1", "      i := i + 1")
	h.run(100, (4+3)+(1+2+3)+2*(1+2), api.Ended)
	h.out(10, 20, 21)
}

func TestIf(t *testing.T) {
	text := []string{"var x", "  seq", "    in ? x", "    if", "      when x = 1", "        out ! 10", "      when x", "        out ! 20", "      when 1 / x", "        out ! 30", "    out ! 40"}
	for n, want := range map[int][]int{1: {10, 40}, 2: {20, 40}, -1: {20, 40}, least: {20, 40}} {
		h := load(t, text...)
		h.Feed(n)
		h.run(9, 4, api.Ended)
		h.out(want...)
	}
	h := load(t, text...)
	h.Feed(0)
	h.run(9, 2, api.Faulty)
	h.out()
	for _, text := range []string{"if", "if\n  when 0\n    skip", "if\n  when 0\n    skip\n  when 1 = 2\n    skip", "seq\n  if\n  skip"} {
		h := load(t, text)
		h.run(9, 1, api.Stopped)
		h.run(9, 0, api.Stopped)
		h.run(0, 0, api.Stopped)
	}
}

func TestReckoning(t *testing.T) {
	for text, want := range map[string]int{
		"7 + 3": 10, "3 - 7": -4, "6 * 7": 42, "7 / 2": 3, "(0 - 7) / 2": -3, "7 / (0 - 2)": -3, "(0 - 7) / (0 - 2)": 3,
		"7 % 3": 1, "(0 - 7) % 3": -1, "7 % (0 - 3)": 1, "(0 - 7) % (0 - 3)": -1, "0 / 5": 0, "0 % 5": 0,
		"1 = 1": 1, "1 = 2": 0, "2 = 1": 0, "1 < 2": 1, "2 < 1": 0, "1 < 1": 0, "2 > 1": 1, "1 > 2": 0, "1 > 1": 0, "(0 - 1) < 0": 1, "(0 - 1) > 0": 0,
		"(1 + 2) * (3 + 4)": 21, "1 + (2 * (3 - (4 / (5 % 3))))": 3, "((((5))))": 5, "0007": 7, "9999999": 9999999, "2 - (3 - 4)": 3, "(2 - 3) - 4": -5,
	} {
		h := load(t, "out ! "+text)
		h.run(1, 1, api.Ended)
		h.out(want)
	}
	for _, text := range []string{"1 / 0", "1 % 0", "0 / 0", "0 % 0", "1 + (1 / (1 - 1))", "(1 % 0) + 1", "(1 / 0) = (1 / 0)", "0 * (5 / 0)"} {
		for _, line := range []string{"out ! " + text, "var x\n  x := " + text, "wait " + text, "while " + text + "\n  skip", "if\n  when " + text + "\n    skip"} {
			load(t, line).run(5, 1, api.Faulty)
		}
	}
}

func TestNumbersWrap(t *testing.T) {
	for _, c := range []struct {
		expr       string
		x, y, want int
	}{
		{"x + y", most, 1, least}, {"x - y", least, 1, most}, {"x * y", most, 2, -2}, {"x * y", least, -1, least}, {"x + y", least, least, 0}, {"0 - x", least, 0, least},
		{"x / y", least, -1, least}, {"x % y", least, -1, 0}, {"x / y", most, -1, -most}, {"x % y", most, least, most}, {"x / y", least, least, 1}, {"x / y", least, 2, -1 << 62},
		{"x < y", least, most, 1}, {"x > y", least, most, 0}, {"x = y", least, most, 0}, {"x = y", least, least, 1}, {"(x + 1) < x", most, 0, 1},
		{"x * y", 1 << 32, 1 << 32, 0}, {"x * y", 3037000500, 3037000500, -9223372036709301616},
	} {
		h := load(t, "var x", "  var y", "    seq", "      in ? x", "      in ? y", "      out ! "+c.expr)
		h.Feed(c.x)
		h.Feed(c.y)
		h.run(9, 3, api.Ended)
		h.out(c.want)
	}
}

func TestWait(t *testing.T) {
	for _, n := range []int{0, -1, -1000001, least} {
		h := load(t, "var x", "  seq", "    in ? x", "    wait x", "    out ! 1")
		h.Feed(n)
		h.run(9, 3, api.Ended)
		h.at(0)
		h.out(1)
	}
	for _, n := range []int{1, 2, api.MaxWait - 1, api.MaxWait} {
		h := load(t, "var x", "  seq", "    in ? x", "    wait x", "    out ! 1")
		h.Feed(n)
		h.run(2, 2, api.Ready)
		h.at(0)
		h.run(0, 0, api.Ready)
		h.at(0)
		h.out()
		h.run(1, 1, api.Ended)
		h.at(n)
		h.out(1)
		h.run(9, 0, api.Ended)
		h.at(n)
	}
	for _, n := range []int{api.MaxWait + 1, api.MaxWait * 2, most} {
		h := load(t, "var x", "  seq", "    wait 3", "    in ? x", "    wait x", "    out ! 1")
		h.Feed(n)
		h.run(9, 3, api.Faulty)
		h.at(3)
		h.out()
	}
	h := load(t, "var i", "  while i < 5", "    seq", "      i := i + 1", "      wait i * 10", "      out ! i")
	h.run(3, 3, api.Ready)
	h.at(0)
	h.run(1, 1, api.Ready)
	h.at(10)
	h.run(100, 17, api.Ended)
	h.at(150)
	h.out(1, 2, 3, 4, 5)
	h = load(t, "while 1", "  wait 1000000")
	h.run(2000, 2000, api.Ready)
	h.at(999 * api.MaxWait)
}

func TestFault(t *testing.T) {
	h := load(t, "var x", "  seq", "    out ! 1", "    wait 2", "    x := 3 % x", "    in ? x", "    out ! 2")
	h.run(2, 2, api.Ready)
	h.run(most, 1, api.Faulty)
	h.at(2)
	h.Feed(1)
	for _, steps := range []int{0, 1, -1, least, most} {
		h.run(steps, 0, api.Faulty)
	}
	h.out(1)
	h.out()
	h.at(2)
}

func TestFeed(t *testing.T) {
	copies := []string{"var x", "  while 1", "    seq", "      in ? x", "      out ! x"}
	h := load(t, copies...)
	for _, n := range []int{3, least, 0, most, -1} {
		h.Feed(n)
	}
	h.run(0, 0, api.Ready)
	h.run(100, 5*3+2, api.Wants)
	h.out(3, least, 0, most, -1)
	for n := range 20 {
		h.run(5, 0, api.Wants)
		h.Feed(n)
		h.run(0, 0, api.Ready)
		h.out()
		h.run(1, 1, api.Ready)
		h.out(n)
		h.run(5, 2, api.Wants)
	}
	// The first one goes to the one that waits, the others are kept.
	for n := range 10 {
		h.Feed(n)
	}
	h.run(100, 10*3, api.Wants)
	h.out(0, 1, 2, 3, 4, 5, 6, 7, 8, 9)
	// What came in is read in its order, also where some is read in between.
	h = load(t, copies...)
	next := 0
	for fed := range 200 {
		h.Feed(fed)
		if fed%3 == 0 {
			h.run(3, 3, api.Ready)
			h.out(next)
			next++
		}
	}
}

func TestFeedAtTheEnd(t *testing.T) {
	for _, c := range []struct {
		text   string
		stands int
	}{{"seq", api.Ended}, {"stop", api.Stopped}, {"out ! 1 / 0", api.Faulty}, {"var x\n  seq\n    in ? x\n    wait 1000001", api.Faulty}, {"var x\n  seq\n    in ? x\n    in ? x", api.Ended}} {
		h := load(t, c.text)
		h.Feed(7)
		h.Feed(8)
		h.Run(9)
		for n := range 5 {
			h.Feed(n)
			h.run(9, 0, c.stands)
			h.out()
		}
	}
	h := load(t, "wait 5")
	h.run(1, 1, api.Ready)
	h.Feed(1)
	h.run(0, 0, api.Ready)
	h.at(0)
}

// spoil writes over all places of a list, those of its spare room too.
func spoil(list []int) {
	list = list[:cap(list)]
	for i := range list {
		list[i] = -77
	}
}

func TestOut(t *testing.T) {
	for size := range 40 {
		h := load(t, "var x", "  while 1", "    seq", "      x := x + 1", "      out ! x")
		var lists [][]int
		for round := range 4 {
			h.run(3*size, 3*size, api.Ready)
			list := h.Out()
			for i := range size {
				if len(list) != size || list[i] != round*size+i+1 {
					t.Fatalf("P8: the list number %d of %d numbers is %v", round, size, list)
				}
			}
			if again := h.Out(); len(again) != 0 {
				t.Fatalf("P8: Out() again is %v", again)
			}
			lists = append(lists, list)
			spoil(list)
		}
		for _, list := range lists {
			for _, n := range list[:cap(list)] {
				if n != -77 {
					t.Fatalf("P2: a list that was handed out is written to: %v", list)
				}
			}
		}
	}
}

func TestOutStaysTheCallers(t *testing.T) {
	h := load(t, "var x", "  while 1", "    seq", "      in ? x", "      out ! x")
	h.Feed(1)
	h.Run(3)
	first := h.Out()
	first = append(first, 5, 6, 7)
	for n := range 9 {
		h.Feed(n)
	}
	h.Run(3 * 5)
	second := h.Out()
	second = append(second, 50, 60, 70)
	h.Run(100)
	h.out(5, 6, 7, 8)
	if !slices.Equal(first, []int{1, 5, 6, 7}) || !slices.Equal(second, []int{0, 1, 2, 3, 4, 50, 60, 70}) {
		t.Errorf("P2: the lists became %v and %v", first, second)
	}
}

func TestMachinesApart(t *testing.T) {
	text := []string{"var x", "  var y", "    while 1", "      seq", "        in ? x", "        wait x", "        y := y + x", "        out ! y"}
	a, b := load(t, text...), load(t, text...)
	a.Feed(1)
	a.Feed(2)
	a.run(100, 12, api.Wants)
	b.run(0, 0, api.Ready)
	b.at(0)
	b.out()
	b.Feed(100)
	b.run(100, 7, api.Wants)
	a.Feed(3)
	b.Feed(4)
	a.run(100, 5, api.Wants)
	b.run(100, 5, api.Wants)
	a.out(1, 3, 6)
	b.out(100, 104)
	a.at(6)
	b.at(104)
	c := load(t, text...)
	c.run(100, 2, api.Wants)
	c.at(0)
}

// However steps are dealt out over Runs, the same comes of them.
func TestAnyDealOfSteps(t *testing.T) {
	const all = 11
	text := []string{"var x", "  while x < 2", "    seq", "      wait 2", "      x := x + 1", "      if", "        when 1", "          out ! x"}
	for deal := range 1 << (all - 1) {
		h := load(t, text...)
		total, steps, stands := 0, 1, 0
		for place := range all {
			if place < all-1 && deal>>place&1 == 0 {
				steps++
				continue
			}
			var done int
			done, stands = h.Run(steps)
			total, steps = total+done, 1
		}
		if total != all || stands != api.Ended || h.Time() != 4 {
			t.Fatalf("P7: dealt out as %s: %d steps, %d, time %d", strconv.FormatInt(int64(deal), 2), total, stands, h.Time())
		}
		h.out(1, 2)
	}
}
