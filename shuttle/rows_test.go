package shuttle_test

import (
	"math/rand"
	"slices"
	"strconv"
	"strings"
	"testing"

	"shuttle/api"
	"shuttle/shuttle"
)

// The ways in which one of a row hands on what it reads, from the channel FROM
// to the channel TO; each of them has a variable of its own.
var links = [][]string{
	{"while 1", "  seq", "    FROM ? v", "    TO ! v"},
	{"while 1", "  alt", "    on FROM ? v", "      TO ! v"},
	{"while 1", "  alt", "    on 0 & FROM ? v", "      stop", "    on FROM ? v", "      TO ! v"},
	{"while 1", "  seq", "    FROM ? v", "    wait v % 3", "    TO ! v"},
	{"while 1", "  seq", "    FROM ? v", "    TO ! v", "    wait 2"},
	{"while 1", "  seq", "    par", "      FROM ? v", "    TO ! v"},
	{"while 1", "  seq", "    FROM ? v", "    par", "      TO ! v"},
}

// row writes a text in which what comes in goes through all these links, one
// of which may be urgent.
func row(which []int, urgent bool) string {
	names := []string{"in"}
	var text []string
	for i := range len(which) - 1 {
		names = append(names, string(rune('a'+i)))
		text = append(text, in(i)+"chan "+names[i+1])
	}
	names = append(names, "out")
	depth := len(text)
	text = append(text, in(depth)+"par")
	for i, link := range which {
		at := depth + 1
		if urgent && i == 0 {
			text = append(text, in(at)+"pri")
			at++
		}
		text = append(text, in(at)+"var v")
		for _, line := range links[link] {
			text = append(text, in(at+1)+strings.NewReplacer("FROM", names[i], "TO", names[i+1]).Replace(line))
		}
		if at > depth+1 {
			text = append(text, in(at)+"skip")
		}
	}
	return lines(text...)
}

func TestWhatGoesThroughARowKeepsItsOrder(t *testing.T) {
	r := rand.New(rand.NewSource(9))
	longest := 0
	for range 3000 {
		which := make([]int, 1+r.Intn(6))
		for i := range which {
			which[i] = r.Intn(len(links))
		}
		text := row(which, r.Intn(2) == 0)
		if len(text) > api.MaxText || strings.Contains(text, "\n"+in(api.MaxDepth+1)) {
			continue
		}
		longest = max(longest, len(which))
		h := load(t, text)
		var fed, got []int
		for range 40 {
			for range r.Intn(3) {
				n := r.Int() - r.Int()
				fed = append(fed, n)
				h.Feed(n)
			}
			h.Run(r.Intn(30))
			got = append(got, h.Out()...)
			if len(got) > len(fed) || !slices.Equal(got, fed[:len(got)]) {
				t.Fatalf("P9: through\n%s\n%v came out as %v", text, fed, got)
			}
		}
		if _, stands := h.Run(100000); stands != api.Wants {
			t.Fatalf("P9: a row stands %d:\n%s", stands, text)
		}
		if got = append(got, h.Out()...); !slices.Equal(got, fed) {
			t.Fatalf("P9: through\n%s\n%v came out as %v", text, fed, got)
		}
	}
	if longest < 5 {
		t.Errorf("no row is longer than %d", longest)
	}
}

// story is all that can be seen of a machine.
type story struct {
	done, stands, time int
	out                string
}

// deal does up to all steps in Runs of the sizes that next tells.
func deal(m *shuttle.Machine, all int, next func() int) story {
	var s story
	var out []string
	for s.done < all {
		steps := min(next(), all-s.done)
		done, stands := m.Run(steps)
		for _, n := range m.Out() {
			out = append(out, strconv.Itoa(n))
		}
		s.done += done
		s.stands = stands
		if done < steps {
			break
		}
	}
	s.time = m.Time()
	s.out = strings.Join(out, " ")
	return s
}

func TestItDoesNotMatterInHowManyRuns(t *testing.T) {
	c := crew{rand.New(rand.NewSource(10))}
	count := 0
	for count < 8000 {
		text := strings.Join(c.text().rows(0), "\n")
		if len(text) > api.MaxText || strings.Contains(text, "\n"+in(api.MaxDepth+1)) {
			continue
		}
		count++
		all := 1 + c.Intn(80)
		fed := c.Intn(6)
		fresh := func() *shuttle.Machine {
			h := load(t, text)
			for n := range fed {
				h.Feed(n)
			}
			return h.Machine
		}
		want := deal(fresh(), all, func() int { return all })
		if got := deal(fresh(), all, func() int { return 1 }); got != want {
			t.Fatalf("P9: %d steps of\n%s\none by one: %v, want %v", all, text, got, want)
		}
		if got := deal(fresh(), all, func() int { return c.Intn(5) }); got != want {
			t.Fatalf("P9: %d steps of\n%s\nby few: %v, want %v", all, text, got, want)
		}
	}
}

func TestAllDealsOfOneText(t *testing.T) {
	text := []string{"chan c", "  var x", "    var y", "      pri", "        while x < 2", "          seq", "            x := x + 1", "            wait 2", "            c ! x", "        par", "          seq", "            alt", "              on c ? y", "                out ! y", "            c ? y", "            out ! y", "          wait 2"}
	want := deal(load(t, text...).Machine, 99, func() int { return 99 })
	if (want != story{16, api.Ended, 4, "1 2"}) {
		t.Fatalf("P7: %v", want)
	}
	const places = 16 - 1
	for cuts := range 1 << places {
		place := 0
		got := deal(load(t, text...).Machine, 99, func() int {
			steps := 1
			for place < places && cuts>>place&1 == 0 {
				place, steps = place+1, steps+1
			}
			place++
			return steps
		})
		if got != want {
			t.Fatalf("P9: dealt out as %s: %v, want %v", strconv.FormatInt(int64(cuts), 2), got, want)
		}
	}
}

// counted runs a text that reads its numbers ahead of all else.
func counted(t *testing.T, text []string, fed ...int) []int {
	t.Helper()
	h := load(t, text...)
	for _, n := range fed {
		h.Feed(n)
	}
	if _, stands := h.Run(1000000); stands != api.Ended {
		t.Fatalf("P9: %q with %v stands %d", h.text, fed, stands)
	}
	return h.Out()
}

func TestAsInAnyLanguage(t *testing.T) {
	common := []string{"var a", "  var b", "    var c", "      seq", "        in ? a", "        in ? b", "        while b > 0", "          seq", "            c := a % b", "            a := b", "            b := c", "        out ! a"}
	gcd := func(a, b int) int {
		for b > 0 {
			a, b = b, a%b
		}
		return a
	}
	row := []string{"var n", "  var a", "    var b", "      seq", "        in ? n", "        b := 1", "        while n > 0", "          var c", "            seq", "              c := a + b", "              a := b", "              b := c", "              n := n - 1", "        out ! a"}
	fibonacci := func(n int) int {
		a, b := 0, 1
		for ; n > 0; n-- {
			a, b = b, a+b
		}
		return a
	}
	halves := []string{"var n", "  var k", "    seq", "      in ? n", "      while (n = 1) = 0", "        seq", "          k := k + 1", "          if", "            when n % 2", "              n := (n * 3) + 1", "            when 1", "              n := n / 2", "      out ! k"}
	collatz := func(n int) int {
		k := 0
		for ; n != 1; k++ {
			if n%2 != 0 {
				n = n*3 + 1
			} else {
				n /= 2
			}
		}
		return k
	}
	for n := range 120 {
		if got, want := counted(t, common, n*7, n*n%90), []int{gcd(n*7, n*n%90)}; !slices.Equal(got, want) {
			t.Errorf("P9: the greatest common divisor is %v, want %v", got, want)
		}
		if got, want := counted(t, row, n), []int{fibonacci(n)}; !slices.Equal(got, want) {
			t.Errorf("P9: the number %d of the row is %v, want %v", n, got, want)
		}
		if got, want := counted(t, halves, n+1), []int{collatz(n + 1)}; !slices.Equal(got, want) {
			t.Errorf("P9: from %d to 1 it takes %v, want %v", n+1, got, want)
		}
	}
	primes := []string{"var n", "  var d", "    var p", "      seq", "        n := 2", "        while n < 60", "          seq", "            d := 2", "            p := 1", "            while d < n", "              seq", "                if", "                  when n % d", "                    skip", "                  when 1", "                    p := 0", "                d := d + 1", "            if", "              when p", "                out ! n", "              when 1", "                skip", "            n := n + 1"}
	if got, want := counted(t, primes), []int{2, 3, 5, 7, 11, 13, 17, 19, 23, 29, 31, 37, 41, 43, 47, 53, 59}; !slices.Equal(got, want) {
		t.Errorf("P9: the primes are %v", got)
	}
}
