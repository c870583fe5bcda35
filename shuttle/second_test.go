package shuttle_test

import (
	"math/big"
	"math/rand"
	"slices"
	"strconv"
	"strings"
	"testing"

	"shuttle/api"
	"shuttle/shuttle"
)

// node is a process of a text or, with the words when and on, what stands
// below an if and an alt.
type node struct {
	word    string
	name    string
	channel string
	expr    *sum
	below   []*node
}

// sum is an expr: a number, a name, or two with a sign between.
type sum struct {
	text        string
	left, right *sum
}

func (s *sum) String() string {
	if s.left == nil {
		return s.text
	}
	return s.left.operand() + s.text + s.right.operand()
}

func (s *sum) operand() string {
	if s.left == nil {
		return s.text
	}
	return "(" + s.String() + ")"
}

func (n *node) rows(depth int) []string {
	row := n.word
	switch n.word {
	case "var", "chan":
		row += " " + n.name
	case "while", "when", "wait":
		row += " " + n.expr.String()
	case "becomes":
		row = n.name + " := " + n.expr.String()
	case "write":
		row = n.channel + " ! " + n.expr.String()
	case "read":
		row = n.channel + " ? " + n.name
	case "on":
		if n.expr != nil {
			row += " " + n.expr.String() + " &"
		}
		row += " " + n.channel + " ? " + n.name
	}
	all := []string{in(depth) + row}
	for _, below := range n.below {
		all = append(all, below.rows(depth+1)...)
	}
	return all
}

type author struct {
	*rand.Rand
}

func (a author) name() string { return []string{"x", "y", "z"}[a.Intn(3)] }

func (a author) expr(nest int) *sum {
	if nest == 0 || a.Intn(3) == 0 {
		if a.Intn(2) == 0 {
			return &sum{text: a.name()}
		}
		return &sum{text: []string{"0", "1", "2", "3", "10", "1000000", "1000001", "9999999"}[a.Intn(8)]}
	}
	sign := string("++--**/%==<>"[a.Intn(12)])
	return &sum{sign, a.expr(nest - 1), a.expr(nest - 1)}
}

func (a author) some(depth, most int) []*node {
	var all []*node
	for range a.Intn(most + 1) {
		all = append(all, a.process(depth))
	}
	return all
}

func (a author) process(depth int) *node {
	kind := a.Intn(16)
	if depth > 7 {
		kind = a.Intn(8)
	}
	switch kind {
	case 0:
		return &node{word: "skip"}
	case 1, 2, 3:
		return &node{word: "becomes", name: a.name(), expr: a.expr(3)}
	case 4, 5:
		return &node{word: "write", channel: "out", expr: a.expr(3)}
	case 6:
		return &node{word: "read", channel: "in", name: a.name()}
	case 7:
		if a.Intn(8) == 0 {
			return &node{word: "stop"}
		}
		return &node{word: "wait", expr: a.expr(1)}
	case 8, 9:
		return &node{word: "var", name: a.name(), below: []*node{a.process(depth + 1)}}
	case 10, 11:
		return &node{word: "while", expr: a.expr(2), below: []*node{a.process(depth + 1)}}
	case 12:
		choice := &node{word: "if"}
		for range a.Intn(4) {
			choice.below = append(choice.below, &node{word: "when", expr: a.expr(2), below: []*node{a.process(depth + 2)}})
		}
		return choice
	}
	return &node{word: "seq", below: a.some(depth+1, 5)}
}

func (a author) text() *node {
	body := &node{word: "seq", below: a.some(4, 6)}
	for _, name := range []string{"x", "y", "z"} {
		body = &node{word: "var", name: name, below: []*node{body}}
	}
	return body
}

// scope is what a var or chan line declares, within those above it.
type scope struct {
	name  string
	value int
	pipe  *pipe
	above *scope
}

func (s *scope) find(name string) *scope {
	for s.name != name {
		s = s.above
	}
	return s
}

// noted is what one step does.
type noted struct {
	writes []int
	reads  bool
	sleeps int
}

// How a history is at its end, beside how a machine may stand.
const cut = -1

// history does a text in one go, with all that will ever come in, and notes
// its steps until it is at its end or there are too many of them.
type history struct {
	steps []noted
	comes []int
	most  int
}

// over ends a history from within.
type over struct{ stands int }

func historyOf(root *node, comes []int, most int) (h *history, stands int) {
	h = &history{comes: comes, most: most}
	defer func() {
		if end, ok := recover().(over); ok {
			stands = end.stands
		}
	}()
	h.do(root, nil)
	return h, api.Ended
}

func (h *history) step() *noted {
	if len(h.steps) == h.most {
		panic(over{cut})
	}
	h.steps = append(h.steps, noted{})
	return &h.steps[len(h.steps)-1]
}

func (h *history) do(n *node, s *scope) {
	switch n.word {
	case "skip":
		h.step()
	case "stop":
		h.step()
		panic(over{api.Stopped})
	case "becomes":
		h.step()
		s.find(n.name).value = reckon(n.expr, s)
	case "write":
		step := h.step()
		step.writes = []int{reckon(n.expr, s)}
	case "read":
		h.step().reads = true
		if len(h.comes) == 0 {
			panic(over{api.Wants})
		}
		s.find(n.name).value = h.comes[0]
		h.comes = h.comes[1:]
	case "wait":
		step := h.step()
		length := reckon(n.expr, s)
		if length > 1000000 {
			panic(over{api.Faulty})
		}
		step.sleeps = max(length, 0)
	case "seq":
		for _, below := range n.below {
			h.do(below, s)
		}
	case "var":
		h.do(n.below[0], &scope{name: n.name, above: s})
	case "while":
		for h.step(); reckon(n.expr, s) != 0; h.step() {
			h.do(n.below[0], s)
		}
	case "if":
		h.step()
		chosen := slices.IndexFunc(n.below, func(when *node) bool { return reckon(when.expr, s) != 0 })
		if chosen < 0 {
			panic(over{api.Stopped})
		}
		h.do(n.below[chosen].below[0], s)
	}
}

func reckon(e *sum, s *scope) int {
	if e.left == nil {
		if n, err := strconv.Atoi(e.text); err == nil {
			return n
		}
		return s.find(e.text).value
	}
	a, b := big.NewInt(int64(reckon(e.left, s))), big.NewInt(int64(reckon(e.right, s)))
	switch e.text {
	case "+":
		return wrapped(a.Add(a, b))
	case "-":
		return wrapped(a.Sub(a, b))
	case "*":
		return wrapped(a.Mul(a, b))
	case "/", "%":
		if b.Sign() == 0 {
			panic(over{api.Faulty})
		}
		quotient, rest := new(big.Int).QuoRem(a, b, new(big.Int))
		if e.text == "/" {
			return wrapped(quotient)
		}
		return wrapped(rest)
	}
	if a.Cmp(b) == map[string]int{"=": 0, "<": -1, ">": 1}[e.text] {
		return 1
	}
	return 0
}

// wrapped brings a number into 64 bits with a sign.
func wrapped(n *big.Int) int {
	all := new(big.Int).Lsh(big.NewInt(1), 64)
	n = new(big.Int).Mod(n, all)
	if n.Bit(63) == 1 {
		n.Sub(n, all)
	}
	return int(n.Int64())
}

// player tells what a machine must answer, out of the history of its text.
type player struct {
	*history
	end    int
	at     int
	fed    int
	read   int
	time   int
	sleeps int
	waits  bool // for a number
	lined  bool // stands in a line
	out    []int
}

func (p *player) feed() {
	p.fed++
	if p.waits {
		p.read++
		p.waits, p.lined = false, true
	}
}

func (p *player) run(steps int) (done, stands int) {
	for done < steps && !p.waits {
		p.time += p.sleeps
		p.sleeps, p.lined = 0, false
		if p.at == len(p.steps) {
			break
		}
		now := p.steps[p.at]
		p.at++
		done++
		p.out = append(p.out, now.writes...)
		p.sleeps = now.sleeps
		if now.reads && p.read == p.fed {
			p.waits = true
		} else if now.reads {
			p.read++
		}
	}
	return done, p.stands()
}

func (p *player) stands() int {
	switch {
	case p.waits:
		return api.Wants
	case p.lined || p.sleeps > 0 || p.at < len(p.steps):
		return api.Ready
	}
	return p.end
}

func hold(t *testing.T, a author, root *node, text string) int {
	comes := make([]int, a.Intn(12))
	for i := range comes {
		comes[i] = []int{a.Intn(5), -1, least, most, a.Int() - a.Int(), api.MaxWait, api.MaxWait + 1}[a.Intn(7)]
	}
	const all = 150
	h, end := historyOf(root, comes, all)
	p := &player{history: h, end: end}
	m, errno, line := shuttle.Load(text)
	if m == nil {
		t.Fatalf("P6: Load(%q): %d, %d", text, errno, line)
	}
	for left := all; left > 0; {
		for p.fed < len(comes) && a.Intn(3) == 0 {
			m.Feed(comes[p.fed])
			p.feed()
		}
		steps := min(a.Intn(9)*a.Intn(9)-1, left-1)
		wantDone, wantStands := p.run(steps)
		done, stands := m.Run(steps)
		if done != wantDone || stands != wantStands || m.Time() != p.time {
			t.Fatalf("P7: Run(%d) of\n%s\nwith %v of %v: %d, %d, time %d, want %d, %d, time %d", steps, text, comes[:p.fed], comes, done, stands, m.Time(), wantDone, wantStands, p.time)
		}
		if a.Intn(2) == 0 {
			if out := m.Out(); !slices.Equal(out, p.out) {
				t.Fatalf("P8: Out of\n%s\nwith %v of %v: %v, want %v", text, comes[:p.fed], comes, out, p.out)
			}
			p.out = nil
		}
		left -= max(done, 1)
	}
	return p.stands()
}

func TestManyTextsByASecondReckoning(t *testing.T) {
	a := author{rand.New(rand.NewSource(5))}
	seen := map[int]int{}
	for range 40000 {
		root := a.text()
		text := strings.Join(root.rows(0), "\n")
		if len(text) > api.MaxText || strings.Contains(text, "\n"+in(api.MaxDepth+1)) {
			continue
		}
		seen[hold(t, a, root, text)]++
	}
	for _, stands := range []int{api.Ready, api.Ended, api.Wants, api.Stopped, api.Faulty} {
		if seen[stands] < 500 {
			t.Errorf("only %d texts stand so at last: %d", seen[stands], stands)
		}
	}
	t.Log(seen)
}
