package shuttle_test

import (
	"math/rand"
	"slices"
	"strconv"
	"strings"
	"testing"

	"shuttle/api"
	"shuttle/shuttle"
)

// rights are what may stand in a process, so that it shares nothing with those
// beside it.
type rights struct {
	asked, given  []string
	read, written []string
}

// hide takes a name away that is declared anew.
func (r rights) hide(name string) rights {
	without := func(names []string) []string {
		return slices.DeleteFunc(slices.Clone(names), func(other string) bool { return other == name })
	}
	return rights{without(r.asked), without(r.given), without(r.read), without(r.written)}
}

// crew writes texts of processes beside one another.
type crew struct {
	*rand.Rand
}

func (c crew) one(of []string) string { return of[c.Intn(len(of))] }

// deal gives each of count processes its part.
func (c crew) deal(r rights, count int) []rights {
	if count == 0 {
		return nil
	}
	all := make([]rights, count)
	for _, name := range r.asked {
		owner := -1
		if slices.Contains(r.given, name) && c.Intn(4) > 0 {
			owner = c.Intn(count)
			all[owner].given = append(all[owner].given, name)
		}
		for i := range all {
			if owner < 0 || owner == i {
				all[i].asked = append(all[i].asked, name)
			}
		}
	}
	for _, name := range r.read {
		reader := &all[c.Intn(count)]
		reader.read = append(reader.read, name)
	}
	for _, name := range r.written {
		at := c.Intn(count)
		if slices.Contains(all[at].read, name) && c.Intn(9) > 0 {
			at = (at + 1) % count
		}
		writer := &all[at]
		writer.written = append(writer.written, name)
	}
	return all
}

func (c crew) expr(r rights, nest int) *sum {
	if nest > 0 && c.Intn(2) == 0 {
		return &sum{string("++--*/%==<<>"[c.Intn(12)]), c.expr(r, nest-1), c.expr(r, nest-1)}
	}
	if len(r.asked) > 0 && c.Intn(2) == 0 {
		return &sum{text: c.one(r.asked)}
	}
	return &sum{text: strconv.Itoa(c.Intn(6))}
}

func (c crew) guard(r rights) *sum {
	if c.Intn(2) == 0 {
		return nil
	}
	return c.expr(r, 1)
}

func (c crew) line(r rights) *node {
	for range 3 {
		switch c.Intn(9) {
		case 0, 1, 2:
			if len(r.read) > 0 && len(r.given) > 0 {
				return &node{word: "read", channel: c.one(r.read), name: c.one(r.given)}
			}
		case 3, 4, 5:
			if len(r.written) > 0 {
				return &node{word: "write", channel: c.one(r.written), expr: c.expr(r, 1)}
			}
		case 6:
			if len(r.given) > 0 {
				return &node{word: "becomes", name: c.one(r.given), expr: c.expr(r, 1)}
			}
		case 7:
			return &node{word: "wait", expr: c.expr(r, 1)}
		}
	}
	if c.Intn(9) == 0 {
		return &node{word: "stop"}
	}
	return &node{word: "skip"}
}

func (c crew) some(r rights, depth, most int) []*node {
	var all []*node
	for range c.Intn(most + 1) {
		all = append(all, c.process(r, depth))
	}
	return all
}

func (c crew) beside(word string, count int, r rights, depth int) *node {
	n := &node{word: word}
	for _, part := range c.deal(r, count) {
		n.below = append(n.below, c.process(part, depth+1))
	}
	return n
}

func (c crew) alt(r rights, depth int) *node {
	if len(r.read) == 0 || len(r.given) == 0 {
		return &node{word: "alt"}
	}
	n := &node{word: "alt"}
	for range 1 + c.Intn(3) {
		n.below = append(n.below, &node{word: "on", expr: c.guard(r), channel: c.one(r.read), name: c.one(r.given), below: []*node{c.process(r, depth+2)}})
	}
	return n
}

func (c crew) declaration(r rights, depth int) *node {
	n := &node{word: "var", name: c.one([]string{"x", "y", "z"})}
	r = r.hide(n.name)
	if c.Intn(3) == 0 {
		n.word = "chan"
		r.read, r.written = append(r.read, n.name), append(r.written, n.name)
	} else {
		r.asked, r.given = append(r.asked, n.name), append(r.given, n.name)
	}
	n.below = []*node{c.process(r, depth+1)}
	return n
}

func (c crew) process(r rights, depth int) *node {
	if depth > 8 {
		return c.line(r)
	}
	switch c.Intn(20) {
	case 0, 1, 2:
		return c.declaration(r, depth)
	case 3, 4, 5:
		return &node{word: "while", expr: c.expr(r, 1), below: []*node{c.process(r, depth+1)}}
	case 6:
		n := &node{word: "if"}
		for range c.Intn(3) {
			n.below = append(n.below, &node{word: "when", expr: c.expr(r, 1), below: []*node{c.process(r, depth+2)}})
		}
		return n
	case 7, 8:
		return c.alt(r, depth)
	case 9, 10:
		return c.beside("par", c.Intn(4), r, depth)
	case 11:
		return c.beside("pri", 2, r, depth)
	case 12, 13, 14, 15, 16:
		return &node{word: "seq", below: c.some(r, depth+1, 4)}
	}
	return c.line(r)
}

// talker has a variable of its own, and mostly talks.
func (c crew) talker(r rights, depth int) *node {
	r = r.hide("v")
	r.asked, r.given = append(r.asked, "v"), append(r.given, "v")
	body := &node{word: "seq"}
	for range 1 + c.Intn(3) {
		body.below = append(body.below, c.talk(r, depth+3))
	}
	if c.Intn(4) > 0 {
		body = &node{word: "while", expr: c.expr(r, 1), below: []*node{body}}
		if c.Intn(3) > 0 {
			body.expr = &sum{text: "1"}
		}
	}
	return &node{word: "var", name: "v", below: []*node{body}}
}

func (c crew) talk(r rights, depth int) *node {
	switch kind := c.Intn(8); {
	case kind < 3 && len(r.read) > 0:
		return &node{word: "read", channel: c.one(r.read), name: c.one(r.given)}
	case kind < 5 && len(r.read) > 0:
		return c.alt(r, depth)
	case kind < 7 && len(r.written) > 0:
		return &node{word: "write", channel: c.one(r.written), expr: c.expr(r, 1)}
	}
	return c.process(r, depth)
}

func (c crew) text() *node {
	r := rights{[]string{"a"}, []string{"a"}, []string{"c", "d", "e", "in"}, []string{"c", "d", "e", "out"}}
	body, count := &node{word: "par"}, 1+c.Intn(4)
	if c.Intn(3) == 0 {
		body.word, count = "pri", 2
	}
	for _, part := range c.deal(r, count) {
		if c.Intn(4) == 0 {
			body.below = append(body.below, c.process(part, 5))
		} else {
			body.below = append(body.below, c.talker(part, 5))
		}
	}
	body = &node{word: "var", name: "a", below: []*node{body}}
	for _, name := range []string{"c", "d", "e"} {
		body = &node{word: "chan", name: name, below: []*node{body}}
	}
	return body
}

// holdTogether holds a machine against the world of its text, by many calls.
func holdTogether(t *testing.T, c crew, root *node, text string, seen map[string]int) {
	w := newWorld(root, seen)
	defer w.close()
	m, errno, line := shuttle.Load(text)
	if m == nil {
		t.Fatalf("P6: Load(%q): %d, %d", text, errno, line)
	}
	var calls []string
	fail := func(promise string, got, want any) {
		t.Fatalf("%s: behind %s of\n%s\n%v, want %v", promise, strings.Join(calls, ", "), text, got, want)
	}
	stands := 0
	for left := 200; left > 0; left-- {
		for c.Intn(4) == 0 {
			n := c.Intn(9) - 1
			calls = append(calls, "Feed("+strconv.Itoa(n)+")")
			m.Feed(n)
			w.feed(n)
		}
		steps := c.Intn(6)*c.Intn(6) - 1
		calls = append(calls, "Run("+strconv.Itoa(steps)+")")
		wantDone, wantStands := w.run(steps)
		done, nowStands := m.Run(steps)
		if got, want := [3]int{done, nowStands, m.Time()}, [3]int{wantDone, wantStands, w.time}; got != want {
			fail("P7: steps, how it stands, time", got, want)
		}
		if c.Intn(2) == 0 {
			calls = append(calls, "Out()")
			if out := m.Out(); !slices.Equal(out, w.written) {
				fail("P8", out, w.written)
			}
			w.written = nil
		}
		stands = nowStands
		left -= max(done, 1)
	}
	seen["stands at last "+strconv.Itoa(stands)]++
}

func TestManyTextsOfProcessesBesideOneAnother(t *testing.T) {
	c := crew{rand.New(rand.NewSource(8))}
	seen := map[string]int{}
	for range 40000 {
		root := c.text()
		text := strings.Join(root.rows(0), "\n")
		if len(text) > api.MaxText || strings.Contains(text, "\n"+in(api.MaxDepth+1)) {
			continue
		}
		holdTogether(t, c, root, text, seen)
		seen["texts"]++
	}
	t.Log(seen)
	for _, what := range []string{"behind its reader", "ahead of its reader", "not the first branch", "come together"} {
		if seen[what] < 3000 {
			t.Errorf("only %d times: %s", seen[what], what)
		}
	}
	for _, stands := range []int{api.Ready, api.Ended, api.Wants, api.Stopped, api.Faulty} {
		if what := "stands at last " + strconv.Itoa(stands); seen[what] < 500 {
			t.Errorf("only %d texts: %s", seen[what], what)
		}
	}
}
