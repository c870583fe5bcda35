package shuttle_test

import (
	"iter"
	"slices"

	"shuttle/api"
)

// pipe is a channel: all that there is to it is which one it is.
type pipe struct{ name string }

// event is why a task stops for a while.
type event int

const (
	ahead   event = iota // it has come to a step
	waiting              // it can't go on
)

// task is a process, which goes through its text on a stack of its own.
type task struct {
	urgent bool
	above  *task
	below  int
	yield  func(event) bool
	next   func() (event, bool)
	stop   func()
	came   bool // to a step that is not done yet
	writes *pipe
	reads  []*pipe
	chosen int // which of those that it reads has been written to
	number int // what it writes, or has read
	wakes  int
}

func (t *task) pause(e event) {
	if !t.yield(e) {
		panic(over{cut})
	}
}

// world carries a text out by the words of the document: who waits for whom is
// found by looking at all tasks.
type world struct {
	tasks   []*task
	current *task
	urgent  []*task
	others  []*task
	asleep  []*task
	time    int
	in, out *pipe
	kept    []int
	written []int
	ended   bool
	faulty  bool
	seen    map[string]int
}

func newWorld(root *node, seen map[string]int) *world {
	w := &world{in: &pipe{"in"}, out: &pipe{"out"}, seen: seen}
	w.current = w.begin(nil, false, root, &scope{name: "in", pipe: w.in, above: &scope{name: "out", pipe: w.out}})
	return w
}

func (w *world) begin(above *task, urgent bool, n *node, s *scope) *task {
	t := &task{above: above, urgent: urgent}
	t.next, t.stop = iter.Pull(func(yield func(event) bool) {
		defer func() {
			if end := recover(); end != nil && end != (over{cut}) {
				panic(end)
			}
		}()
		t.yield = yield
		w.do(t, n, s)
	})
	w.tasks = append(w.tasks, t)
	return t
}

// close ends the stacks of all tasks.
func (w *world) close() {
	for _, t := range w.tasks {
		t.stop()
	}
}

func (w *world) lineUp(t *task) {
	if t.urgent {
		w.urgent = append(w.urgent, t)
	} else {
		w.others = append(w.others, t)
	}
}

func (w *world) run(steps int) (done, stands int) {
	for !w.faulty {
		if w.current == nil && (done >= steps || !w.choose()) {
			break
		}
		if w.current.came {
			if done >= steps {
				break
			}
			done++
			w.current.came = false
		}
		w.advance(w.current)
	}
	return done, w.stands()
}

func (w *world) advance(t *task) {
	defer func() {
		if end := recover(); end == (over{api.Faulty}) {
			w.faulty, w.current = true, nil
		} else if end != nil {
			panic(end)
		}
	}()
	e, more := t.next()
	t.came = more && e == ahead
	if t.came {
		return
	}
	w.current = nil
	if !more {
		w.end(t)
	}
}

func (w *world) end(t *task) {
	w.tasks = slices.DeleteFunc(w.tasks, func(other *task) bool { return other == t })
	if t.above == nil {
		w.ended = true
		return
	}
	t.above.below--
	if t.above.below == 0 {
		w.lineUp(t.above)
	}
}

func (w *world) choose() bool {
	if len(w.urgent)+len(w.others) == 0 && len(w.asleep) > 0 {
		first := slices.MinFunc(w.asleep, func(a, b *task) int { return a.wakes - b.wakes })
		w.time = first.wakes
		woken := func(t *task) bool { return t.wakes == w.time }
		for _, t := range w.asleep {
			if woken(t) {
				w.lineUp(t)
			}
		}
		w.asleep = slices.DeleteFunc(w.asleep, woken)
	}
	for _, line := range []*[]*task{&w.urgent, &w.others} {
		if len(*line) > 0 {
			w.current, *line = (*line)[0], slices.Clone((*line)[1:])
			return true
		}
	}
	return false
}

func (w *world) stands() int {
	switch {
	case w.faulty:
		return api.Faulty
	case w.ended:
		return api.Ended
	case w.current != nil || len(w.urgent)+len(w.others)+len(w.asleep) > 0:
		return api.Ready
	case slices.ContainsFunc(w.tasks, func(t *task) bool { return slices.Contains(t.reads, w.in) }):
		return api.Wants
	}
	return api.Stopped
}

// give tells whether somebody waited for the number.
func (w *world) give(p *pipe, n int) bool {
	for _, t := range w.tasks {
		if i := slices.Index(t.reads, p); i >= 0 {
			t.chosen, t.number, t.reads = i, n, nil
			w.lineUp(t)
			return true
		}
	}
	return false
}

func (w *world) feed(n int) {
	if !w.give(w.in, n) {
		w.kept = append(w.kept, n)
	}
}

func (w *world) write(t *task, p *pipe, n int) {
	if p == w.out {
		w.written = append(w.written, n)
		return
	}
	if w.give(p, n) {
		w.seen["behind its reader"]++
		return
	}
	t.writes, t.number = p, n
	t.pause(waiting)
}

// read tells which of the pipes was read from, and the number.
func (w *world) read(t *task, from []*pipe) (int, int) {
	for i, p := range from {
		if p == w.in && len(w.kept) > 0 {
			n := w.kept[0]
			w.kept = w.kept[1:]
			return i, n
		}
		for _, other := range w.tasks {
			if other.writes == p {
				w.seen["ahead of its reader"]++
				other.writes = nil
				w.lineUp(other)
				return i, other.number
			}
		}
	}
	t.reads = from
	t.pause(waiting)
	return t.chosen, t.number
}

func (w *world) sleep(t *task, length int) {
	if length > api.MaxWait {
		panic(over{api.Faulty})
	}
	if length > 0 {
		t.wakes = w.time + length
		w.asleep = append(w.asleep, t)
		t.pause(waiting)
	}
}

func (w *world) alt(t *task, n *node, s *scope) *node {
	var open []*node
	var from []*pipe
	for _, on := range n.below {
		if on.expr == nil || reckon(on.expr, s) != 0 {
			open = append(open, on)
			from = append(from, s.find(on.channel).pipe)
		}
	}
	i, got := w.read(t, from)
	s.find(open[i].name).value = got
	if i > 0 {
		w.seen["not the first branch"]++
	}
	return open[i].below[0]
}

func (w *world) beside(t *task, n *node, s *scope) {
	for i, below := range n.below {
		t.below++
		w.lineUp(w.begin(t, t.urgent || n.word == "pri" && i == 0, below, s))
	}
	if t.below > 0 {
		t.pause(waiting)
		w.seen["come together"]++
	}
}

func (w *world) do(t *task, n *node, s *scope) {
	switch n.word {
	case "seq":
		for _, below := range n.below {
			w.do(t, below, s)
		}
		return
	case "var":
		w.do(t, n.below[0], &scope{name: n.name, above: s})
		return
	case "chan":
		w.do(t, n.below[0], &scope{name: n.name, pipe: &pipe{n.name}, above: s})
		return
	}
	t.pause(ahead)
	switch n.word {
	case "stop":
		t.pause(waiting)
	case "becomes":
		s.find(n.name).value = reckon(n.expr, s)
	case "write":
		w.write(t, s.find(n.channel).pipe, reckon(n.expr, s))
	case "read":
		_, got := w.read(t, []*pipe{s.find(n.channel).pipe})
		s.find(n.name).value = got
	case "wait":
		w.sleep(t, reckon(n.expr, s))
	case "while":
		for reckon(n.expr, s) != 0 {
			w.do(t, n.below[0], s)
			t.pause(ahead)
		}
	case "if":
		chosen := slices.IndexFunc(n.below, func(when *node) bool { return reckon(when.expr, s) != 0 })
		if chosen < 0 {
			t.pause(waiting)
		}
		w.do(t, n.below[chosen].below[0], s)
	case "alt":
		w.do(t, w.alt(t, n, s), s)
	case "par", "pri":
		w.beside(t, n, s)
	}
}
