package event

import (
	"fmt"
	"math/rand/v2"
	"slices"
	"testing"

	"towncrier/api"
)

// A model says P13.1 and P13.2 of what was done with an event, from its beginning on: it holds no flags, and looks back for each of them.
type model struct {
	made api.Flags
	past []string
}

// last tells which of some steps was done last; the empty text: none was.
func (m *model) last(steps ...string) string {
	for _, s := range slices.Backward(m.past) {
		if slices.Contains(steps, s) {
			return s
		}
	}
	return ""
}

func (m *model) done(step string) { m.past = append(m.past, step) }

func (m *model) passive() bool { return m.last("passive", "active", "End") == "passive" }

func (m *model) sent() bool { return m.last("Begin", "End") == "Begin" }

func (m *model) prevent() bool {
	may := m.made.Cancelable && !m.passive()
	if may {
		m.done("Prevent")
	}
	return may
}

func (m *model) begin() bool {
	may := !m.sent()
	if may {
		m.done("Begin")
	}
	return may
}

func (m *model) flags() api.Flags {
	return api.Flags{
		Bubbles:    m.made.Bubbles,
		Cancelable: m.made.Cancelable,
		Composed:   m.made.Composed,
		Canceled:   slices.Contains(m.past, "Prevent"),
		Stop:       slices.Contains([]string{"Stop", "StopNow"}, m.last("Stop", "StopNow", "End")),
		StopNow:    m.last("StopNow", "End") == "StopNow",
		Passive:    m.passive(),
		Dispatch:   m.sent(),
	}
}

// A pair is an event, its model, and what its fields should be beside the flags.
type pair struct {
	e *Event
	m *model
	// Its Flags are the model's.
	fields Event
}

func newPair(t *testing.T, c *rand.Rand) *pair {
	t.Helper()
	made := api.Flags{Bubbles: c.IntN(2) == 0, Cancelable: c.IntN(3) > 0, Composed: c.IntN(2) == 0}
	typ, related := rightTypes[c.IntN(len(rightTypes))], c.IntN(129)
	e := expectNew(t, typ, related, made.Bubbles, made.Cancelable, made.Composed)
	return &pair{e, &model{made: made}, Event{Type: typ, Related: related}}
}

func TestEventsAsTheModelHasThem(t *testing.T) {
	counts := map[string]int{}
	for round := range 1200 {
		c := rand.New(rand.NewPCG(13, uint64(round)))
		pairs := []*pair{newPair(t, c), newPair(t, c), newPair(t, c)}
		for range 10 + c.IntN(60) {
			step(t, pairs[c.IntN(len(pairs))], c, counts)
			for i, p := range pairs {
				want := p.fields
				want.Flags = p.m.flags()
				expectEvent(t, fmt.Sprintf("round %d, event %d, behind %v", round, i, p.m.past), p.e, want)
			}
		}
	}
	expectCounts(t, counts)
}

func step(t *testing.T, p *pair, c *rand.Rand, counts map[string]int) {
	t.Helper()
	switch c.IntN(12) {
	case 0, 1, 2:
		sort := fmt.Sprint("Prevent: cancelable ", p.m.made.Cancelable, ", passive ", p.m.passive(), ", canceled ", p.m.flags().Canceled)
		expectAnswer(t, "Prevent", p.e.Prevent(), p.m.prevent())
		counts[sort]++
	case 3, 4:
		counts[fmt.Sprint("Begin: sent ", p.m.sent())]++
		expectAnswer(t, "Begin", p.e.Begin(), p.m.begin())
	case 5:
		p.e.Stop()
		p.m.done("Stop")
		counts["Stop"]++
	case 6:
		p.e.StopNow()
		p.m.done("StopNow")
		counts["StopNow"]++
	case 7, 8:
		counts[fmt.Sprint("End: sent ", p.m.sent(), ", stopped ", p.m.flags().Stop, ", passive ", p.m.passive())]++
		p.e.End()
		p.m.done("End")
		p.fields.Current, p.fields.Phase, p.fields.Path = 0, api.None, nil
	case 9:
		setPassive(p, c.IntN(4) > 0)
		counts["set Passive"]++
	default:
		setFields(p, c)
		counts["set fields"]++
	}
}

func setPassive(p *pair, is bool) {
	p.e.Flags.Passive = is
	if is {
		p.m.done("passive")
	} else {
		p.m.done("active")
	}
}

// setFields does what layers above do: they set what is told at an entry.
func setFields(p *pair, c *rand.Rand) {
	one := func() int { return odd[c.IntN(len(odd))] }
	target, related, current, phase, length := one(), one(), one(), one(), c.IntN(5)
	p.e.Target, p.e.Related, p.e.Current, p.e.Phase, p.e.Path = target, related, current, phase, steps(length)
	p.fields.Target, p.fields.Related, p.fields.Current, p.fields.Phase, p.fields.Path = target, related, current, phase, steps(length)
}

func expectAnswer(t *testing.T, name string, got, want bool) {
	t.Helper()
	if got != want {
		t.Fatalf("%s() = %v", name, got)
	}
}

// expectCounts sees to it that each sort of a step came up: else the test would say little of it.
func expectCounts(t *testing.T, counts map[string]int) {
	t.Helper()
	sorts := []string{"Stop", "StopNow", "Begin: sent true", "Begin: sent false", "set Passive", "set fields"}
	for bits := range 8 {
		a, b, c := bits&1 != 0, bits&2 != 0, bits&4 != 0
		sorts = append(sorts, fmt.Sprint("End: sent ", a, ", stopped ", b, ", passive ", c))
		// What isn't cancelable isn't canceled here.
		if a || !c {
			sorts = append(sorts, fmt.Sprint("Prevent: cancelable ", a, ", passive ", b, ", canceled ", c))
		}
	}
	for _, sort := range sorts {
		if counts[sort] < 200 {
			t.Errorf("%s: only %d times", sort, counts[sort])
		}
	}
	if len(counts) != len(sorts) {
		t.Errorf("there are %d sorts: %v", len(counts), counts)
	}
}
