package machine

import "container/heap"

type sleeper struct {
	wakes   int // at which time
	order   int // how many fell asleep ahead of it
	process *process
}

// sleepers are a heap: the first one is the one that wakes first and, of those
// that wake at the same time, fell asleep first.
type sleepers []sleeper

func (s sleepers) Len() int { return len(s) }

func (s sleepers) Less(i, j int) bool {
	if s[i].wakes != s[j].wakes {
		return s[i].wakes < s[j].wakes
	}
	return s[i].order < s[j].order
}

func (s sleepers) Swap(i, j int) { s[i], s[j] = s[j], s[i] }

func (s *sleepers) Push(x any) { *s = append(*s, x.(sleeper)) }

func (s *sleepers) Pop() any {
	last := len(*s) - 1
	x := (*s)[last]
	*s = (*s)[:last]
	return x
}

func (m *Machine) fallAsleep(p *process, length int) {
	heap.Push(&m.asleep, sleeper{m.time + length, m.slept, p})
	m.slept++
}

// wakeNext lets time go on to the next moment at which some wake, and wakes
// all of these.
func (m *Machine) wakeNext() {
	if len(m.asleep) == 0 {
		return
	}
	m.time = m.asleep[0].wakes
	for len(m.asleep) > 0 && m.asleep[0].wakes == m.time {
		woken := heap.Pop(&m.asleep).(sleeper)
		woken.process.told(0, 0)
	}
}
