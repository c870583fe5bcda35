package machine

import (
	"math/rand"
	"slices"
	"testing"

	"shuttle/api"
	"shuttle/code"
)

// program is of instructions that need no Arg, and has room for what comes in.
func program(kinds ...code.Kind) code.Program {
	p := code.Program{Room: code.In + 1}
	for _, kind := range kinds {
		p.Code = append(p.Code, code.Instruction{Kind: kind})
	}
	return p
}

func TestEveryKindHasAnAction(t *testing.T) {
	for kind, act := range actions() {
		if act == nil {
			t.Errorf("kind %d has no action", kind)
		}
	}
}

// Those that sleep wake in the order of their times; at one time, in the order
// in which they fell asleep.
func TestOrderOfSleepers(t *testing.T) {
	r := rand.New(rand.NewSource(3))
	for count := range 40 {
		m := New(program())
		m.time = 10
		lengths := make([]int, count)
		var want []int
		for i := range lengths {
			lengths[i] = 1 + r.Intn(6)
			p := &process{machine: m, at: i}
			p.told = p.isWoken
			m.fallAsleep(p, lengths[i])
			want = append(want, i)
		}
		slices.SortStableFunc(want, func(a, b int) int { return lengths[a] - lengths[b] })
		for len(want) > 0 {
			m.others = nil
			m.wakeNext()
			length := lengths[want[0]]
			if m.time != 10+length {
				t.Fatalf("P7: of %v the time is %d, want %d", lengths, m.time, 10+length)
			}
			for _, p := range m.others {
				if len(want) == 0 || p.at != want[0] || lengths[p.at] != length {
					t.Fatalf("P7: of %v is %d woken at %d, want %v", lengths, p.at, m.time, want)
				}
				want = want[1:]
			}
			if len(want) > 0 && lengths[want[0]] == length {
				t.Fatalf("P7: of %v is %d not woken at %d", lengths, want[0], m.time)
			}
		}
		m.others = nil
		time := m.time
		if m.wakeNext(); len(m.others) > 0 || m.time != time {
			t.Fatalf("P7: where none sleeps, %d are woken, and the time is %d", len(m.others), m.time)
		}
	}
}

// As long as one stands in a line, no time goes on.
func TestLineGoesAheadOfSleepers(t *testing.T) {
	m := New(program(code.Step, code.Step, code.End))
	m.current.goOn()
	m.leave()
	sleeper := &process{machine: m}
	sleeper.told = sleeper.isWoken
	m.fallAsleep(sleeper, 5)
	if done, _ := m.Run(1); done != 1 || m.time != 0 || len(m.asleep) != 1 {
		t.Errorf("P7: %d steps, the time is %d, and %d sleep", done, m.time, len(m.asleep))
	}
}

// A fault stops those that could go on as well.
func TestFaultStopsAll(t *testing.T) {
	m := New(program(code.Step, code.Step, code.End))
	lined, sleeper := &process{machine: m}, &process{machine: m}
	lined.goOn()
	sleeper.told = sleeper.isWoken
	m.fallAsleep(sleeper, 5)
	m.fault()
	if done, stands := m.Run(9); done != 0 || stands != api.Faulty || m.time != 0 {
		t.Errorf("P7: behind a fault %d steps, %d, and the time is %d", done, stands, m.time)
	}
}

// Exprs leave nothing behind them, however many are reckoned.
func TestStackIsEmptyBetweenSteps(t *testing.T) {
	m := New(code.Program{Room: code.In + 1, Code: []code.Instruction{
		{Kind: code.Step}, {Kind: code.Number, Arg: 1}, {Kind: code.Number, Arg: 2}, {Kind: code.Less}, {Kind: code.Unless, Arg: 9},
		{Kind: code.Step}, {Kind: code.Number, Arg: 0}, {Kind: code.Sleep}, {Kind: code.Jump}, {Kind: code.End},
	}})
	for range 1000 {
		m.Run(1)
		if len(m.stack) != 0 {
			t.Fatalf("the stack holds %v", m.stack)
		}
	}
}
