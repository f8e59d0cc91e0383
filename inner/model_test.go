package inner

import (
	"fmt"
	"math/rand/v2"
	"slices"
	"strings"
	"testing"

	"towncrier/api"
	"towncrier/event"
	"towncrier/listen"
)

// A stage has listeners and events, and runs turns. What is called there does what its callback's deeds are, which may run turns anew.
type stage interface {
	add(node int, x api.Listener)
	kill(id int)
	// event tells the fields of an event, to be read and set.
	event(at int) *event.Event
	run(at int, turn api.Turn, call func(x api.Listener)) int
	would(at int, turn api.Turn) []int
	// all tells the listeners that were added.
	all() []api.Listener
}

// On the real stage the package is asked.
type realStage struct {
	lists  *listen.Lists
	events []*event.Event
}

func (r *realStage) add(node int, x api.Listener) { r.lists.Add(node, x) }

func (r *realStage) kill(id int) { r.lists.Kill(id) }

func (r *realStage) event(at int) *event.Event { return r.events[at] }

func (r *realStage) all() []api.Listener { return listenersOf(r.lists) }

func (r *realStage) run(at int, turn api.Turn, call func(x api.Listener)) int {
	return Run(r.events[at], r.lists, turn, call)
}

func (r *realStage) would(at int, turn api.Turn) []int { return Would(r.events[at], r.lists, turn) }

// On the model's stage there are no lists by nodes: a turn counts the numbers up to the last one that was given ahead of it, and calls those that fit then.
type modelStage struct {
	listeners []api.Listener
	nodes     []int
	events    []event.Event
	counts    map[string]int
}

func (m *modelStage) add(node int, x api.Listener) {
	for i, y := range m.listeners {
		if m.nodes[i] == node && !y.Removed && y.Type == x.Type && y.Callback == x.Callback && y.Capture == x.Capture {
			return
		}
	}
	// An event that isn't told has no current node.
	if node >= 1 && len(m.listeners) < 512 {
		x.Id, x.Removed = len(m.listeners)+1, false
		m.listeners, m.nodes = append(m.listeners, x), append(m.nodes, node)
	}
}

func (m *modelStage) kill(id int) {
	if id >= 1 && id <= len(m.listeners) {
		m.listeners[id-1].Removed = true
	}
}

func (m *modelStage) event(at int) *event.Event { return &m.events[at] }

func (m *modelStage) all() []api.Listener { return m.listeners }

func (m *modelStage) run(at int, turn api.Turn, call func(x api.Listener)) int {
	e := &m.events[at]
	if turn.At < 0 || turn.At > len(e.Path)-1 {
		m.counts["no place"]++
		return 0
	}
	e.Phase, e.Target = turn.Phase, 0
	for _, s := range e.Path[:turn.At+1] {
		e.Related = s.Related
		if s.Target != 0 {
			e.Target = s.Target
		}
	}
	if e.Flags.Stop {
		m.counts["stopped ahead"]++
		return 0
	}
	e.Current = e.Path[turn.At].Node
	return m.call(e, turn, e.Current, call)
}

func (m *modelStage) call(e *event.Event, turn api.Turn, node int, call func(x api.Listener)) int {
	// Of those that are removed by now it is known when that was.
	begun := slices.Clone(m.listeners)
	newest, called := len(begun), 0
	for id := 1; id <= newest; id++ {
		x := m.listeners[id-1]
		if m.nodes[id-1] != node || x.Removed {
			if m.nodes[id-1] == node && !begun[id-1].Removed {
				m.counts["removed by one ahead"]++
			}
			continue
		}
		if e.Type != x.Type || turn.Capture != x.Capture {
			m.counts["of another type or way"]++
			continue
		}
		m.listeners[id-1].Removed = x.Once
		e.Flags.Passive = x.Passive
		called++
		m.counts[fmt.Sprint("called, once ", x.Once, ", passive ", x.Passive)]++
		call(x)
		e.Flags.Passive = false
		if e.Flags.StopNow {
			m.counts[fmt.Sprint("stopped now, the last one ", !slices.Contains(m.nodes[id:newest], node))]++
			break
		}
	}
	if slices.Contains(m.nodes[newest:], node) {
		m.counts["added meanwhile"]++
	}
	m.counts[fmt.Sprint("calls ", min(called, 3))]++
	return called
}

// would tells whom a run calls on a stage of its own, on which nothing changes but by it.
func (m *modelStage) would(at int, turn api.Turn) []int {
	own := &modelStage{listeners: slices.Clone(m.listeners), nodes: m.nodes, events: slices.Clone(m.events), counts: map[string]int{}}
	var ids []int
	own.run(at, turn, func(x api.Listener) { ids = append(ids, x.Id) })
	return ids
}

// A deed is what a callback does: at is of an event, other numbers are as the deed takes them.
type deed struct {
	name     string
	at, id   int
	node     int
	listener api.Listener
	turn     api.Turn
}

// A player does deeds on a stage, and writes down what comes of them.
type player struct {
	stage stage
	// By callbacks, from 1 on.
	deeds [][]deed
	// How many more may be done: turns may be run within turns without end.
	fuel, depth int
	deepest     int
	log         []string
}

func (p *player) write(parts ...any) { p.log = append(p.log, fmt.Sprintln(parts...)) }

// own runs a turn, in which callbacks do their deeds.
func (p *player) own(at int, turn api.Turn) {
	p.write("would", at, turn, p.stage.would(at, turn))
	p.depth++
	p.deepest = max(p.deepest, p.depth)
	n := p.stage.run(at, turn, func(x api.Listener) {
		p.write("called", at, fmt.Sprintf("%+v %+v", x, *p.stage.event(at)))
		if x.Callback <= len(p.deeds) {
			p.do(at, x, p.deeds[x.Callback-1])
		}
	})
	p.depth--
	p.write("run", at, turn, n, fmt.Sprintf("%+v", *p.stage.event(at)))
}

// do does a callback's deeds; those of the event that is told have at below 0.
func (p *player) do(told int, x api.Listener, deeds []deed) {
	for _, d := range deeds {
		if p.fuel == 0 {
			return
		}
		p.fuel--
		at := d.at
		if at < 0 {
			at = told
		}
		e := p.stage.event(at)
		switch d.name {
		case "add":
			p.stage.add(d.node, d.listener)
		case "add here":
			p.stage.add(e.Current, d.listener)
		case "again":
			p.stage.add(e.Current, api.Listener{Type: x.Type, Callback: x.Callback, Options: x.Options})
		case "kill":
			p.stage.kill(d.id)
		case "kill mine":
			p.stage.kill(x.Id)
		case "kill next":
			p.stage.kill(x.Id + 1)
		case "stop":
			e.Stop()
		case "stop now":
			e.StopNow()
		case "go on":
			e.Flags.Stop, e.Flags.StopNow = false, false
		case "prevent":
			p.write("prevent", e.Prevent())
		case "type":
			e.Type = d.listener.Type
		case "end":
			path := e.Path
			e.End()
			e.Path = path
		case "run":
			p.own(at, d.turn)
		}
	}
}

// pair gives the same listeners and events on both stages.
func pair(t *testing.T, nodes []int, listeners []api.Listener, events []event.Event, counts map[string]int) (*realStage, *modelStage) {
	t.Helper()
	r := &realStage{lists: listen.New()}
	m := &modelStage{counts: counts}
	for i, x := range listeners {
		r.add(nodes[i], x)
		m.add(nodes[i], x)
		if x.Removed {
			r.kill(len(m.listeners))
			m.kill(len(m.listeners))
		}
	}
	for _, e := range events {
		real := e
		real.Path = slices.Clone(e.Path)
		r.events = append(r.events, &real)
		m.events = append(m.events, e)
	}
	return r, m
}

// expectAlike plays the same turn on both stages.
func expectAlike(t *testing.T, r *realStage, m *modelStage, deeds [][]deed, fuel, at int, turn api.Turn) *player {
	t.Helper()
	first := &player{stage: r, deeds: deeds, fuel: fuel}
	second := &player{stage: m, deeds: deeds, fuel: fuel}
	first.own(at, turn)
	second.own(at, turn)
	for i := range max(len(first.log), len(second.log)) {
		if i >= len(first.log) || i >= len(second.log) || first.log[i] != second.log[i] {
			t.Fatalf("%v\nof %+v:\n%snot\n%s", deeds, turn, strings.Join(first.log, ""), strings.Join(second.log, ""))
		}
	}
	if !slices.Equal(r.all(), m.all()) {
		t.Fatalf("%v\nof %+v: the listeners are\n%+v, not\n%+v", deeds, turn, r.all(), m.all())
	}
	for i := range m.events {
		expectEvent(t, r.events[i], m.events[i])
	}
	return first
}

// All lists of a few listeners, in turns that the first, the second, the third one or none stops.

func TestAllShortLists(t *testing.T) {
	counts := map[string]int{}
	kinds := allKinds()
	for first := range kinds {
		for second := range kinds {
			for third := range kinds {
				listeners := []api.Listener{kinds[first], kinds[second], kinds[third]}
				for i := range listeners {
					listeners[i].Callback = i + 1
				}
				expectStops(t, listeners, counts)
			}
		}
	}
	expectCounts(t, counts, 200,
		"called, once false, passive false", "called, once false, passive true", "called, once true, passive false", "called, once true, passive true",
		"of another type or way", "stopped ahead", "stopped now, the last one false", "stopped now, the last one true", "calls 0", "calls 1", "calls 2", "calls 3")
}

// allKinds gives listeners of two types with all options.
func allKinds() []api.Listener {
	var kinds []api.Listener
	for bits := range 12 {
		typ := "a"
		if bits >= 8 {
			typ = "b"
		}
		kinds = append(kinds, api.Listener{Type: typ, Options: api.Options{Capture: bits&1 != 0, Once: bits&2 != 0, Passive: bits&4 != 0}})
	}
	return kinds
}

func expectStops(t *testing.T, listeners []api.Listener, counts map[string]int) {
	t.Helper()
	for by := range 4 {
		deeds := make([][]deed, 3)
		if by > 0 {
			deeds[by-1] = []deed{{name: "stop now", at: -1}}
		}
		flags := []api.Flags{{}, {StopNow: true, Passive: true}, {Stop: true}}[by%3]
		e := event.Event{Type: "a", Flags: flags, Path: []api.Step{{Node: 6, Target: 6}}}
		r, m := pair(t, []int{6, 6, 6}, listeners, []event.Event{e}, counts)
		for _, capture := range []bool{false, true} {
			expectAlike(t, r, m, deeds, 10, 0, api.Turn{Phase: api.AtTarget, Capture: capture})
		}
	}
}

// Three listeners, of which each removes any of the three, and adds one or none.

func TestAllRemovals(t *testing.T) {
	counts := map[string]int{}
	for kills := range 1 << 9 {
		for adds := range 1 << 3 {
			for once := range 1 << 3 {
				deeds := make([][]deed, 3)
				var listeners []api.Listener
				for i := range 3 {
					for id := range 3 {
						if kills>>(3*i+id)&1 != 0 {
							deeds[i] = append(deeds[i], deed{name: "kill", id: id + 1})
						}
					}
					if adds>>i&1 != 0 {
						deeds[i] = append(deeds[i], deed{name: "again", at: -1})
					}
					listeners = append(listeners, api.Listener{Type: "a", Callback: i + 1, Options: api.Options{Once: once>>i&1 != 0}})
				}
				e := event.Event{Type: "a", Path: []api.Step{{Node: 6, Target: 6}}}
				r, m := pair(t, []int{6, 6, 6}, listeners, []event.Event{e}, counts)
				for range 2 {
					expectAlike(t, r, m, deeds, 100, 0, api.Turn{Phase: api.AtTarget})
				}
			}
		}
	}
	expectCounts(t, counts, 1000, "called, once false, passive false", "called, once true, passive false", "removed by one ahead", "added meanwhile", "calls 0", "calls 1", "calls 2", "calls 3")
}

// Stages and deeds by chance.

func TestTurnsAsTheModelRunsThem(t *testing.T) {
	counts := map[string]int{}
	for round := range 10000 {
		c := chance{rand.New(rand.NewPCG(17, uint64(round)))}
		var nodes []int
		var listeners []api.Listener
		for range c.IntN(20) {
			nodes = append(nodes, c.node())
			listeners = append(listeners, c.listener())
		}
		events := []event.Event{c.event(), c.event()}
		r, m := pair(t, nodes, listeners, events, counts)
		var deeds [][]deed
		for range 5 {
			deeds = append(deeds, c.deeds())
		}
		for range 1 + c.IntN(6) {
			p := expectAlike(t, r, m, deeds, 40, c.IntN(2), c.turn())
			counts[fmt.Sprint("turns within one another ", min(p.deepest, 4))]++
		}
	}
	expectCounts(t, counts, 200,
		"no place", "stopped ahead", "of another type or way", "removed by one ahead", "added meanwhile",
		"called, once false, passive false", "called, once false, passive true", "called, once true, passive false", "called, once true, passive true",
		"stopped now, the last one false", "stopped now, the last one true", "calls 0", "calls 1", "calls 2", "calls 3",
		"turns within one another 1", "turns within one another 2", "turns within one another 3", "turns within one another 4")
}

// A chance is a source of steps that are the same in each run.
type chance struct{ *rand.Rand }

func (c chance) yes() bool { return c.IntN(2) == 0 }

// often says whether it is so in all but one of n.
func (c chance) often(n int) bool { return c.IntN(n) != 0 }

func (c chance) node() int { return 5 + c.IntN(3) }

func (c chance) typ() string {
	if c.often(4) {
		return "a"
	}
	return "b"
}

func (c chance) listener() api.Listener {
	return api.Listener{
		Type:     c.typ(),
		Callback: 1 + c.IntN(6),
		Options:  api.Options{Capture: !c.often(3), Once: !c.often(3), Passive: !c.often(3), Signal: c.IntN(3)},
		Removed:  !c.often(8),
	}
}

func (c chance) event() event.Event {
	e := event.Event{Type: c.typ(), Target: c.IntN(9), Related: c.IntN(9), Current: c.IntN(9), Phase: c.IntN(4)}
	e.Flags = flagsOf(c.IntN(256))
	// Else next to nothing would be called.
	e.Flags.Stop, e.Flags.StopNow = !c.often(12), !c.often(12)
	for range c.IntN(7) {
		s := api.Step{Node: c.node(), Related: c.IntN(9)}
		if c.yes() {
			s.Target = 1 + c.IntN(9)
		}
		e.Path = append(e.Path, s)
	}
	return e
}

func (c chance) turn() api.Turn {
	turn := api.Turn{At: c.IntN(4), Phase: c.IntN(4), Capture: !c.often(3)}
	if !c.often(20) {
		turn.At = strays[c.IntN(len(strays))]
	}
	return turn
}

// names are of deeds: those that stop events are rare, else they would be stopped mostly.
var names = []string{
	"add", "add here", "add here", "again", "again", "kill", "kill mine", "kill next", "kill next", "go on", "go on", "prevent", "type", "end",
	"run", "run", "run", "run", "run", "stop", "stop now",
}

func (c chance) deeds() []deed {
	var deeds []deed
	for range c.IntN(5) {
		d := deed{name: names[c.IntN(len(names))], at: c.IntN(3) - 1, id: c.IntN(20), node: c.node(), listener: c.listener(), turn: c.turn()}
		d.listener.Removed = false
		deeds = append(deeds, d)
	}
	return deeds
}

// expectCounts sees to it that each sort came up: else the test would say little of it.
func expectCounts(t *testing.T, counts map[string]int, least int, sorts ...string) {
	t.Helper()
	for _, sort := range sorts {
		if counts[sort] < least {
			t.Errorf("%s: only %d times", sort, counts[sort])
		}
	}
	if len(counts) != len(sorts) {
		t.Errorf("there are %d sorts: %v", len(counts), counts)
	}
}
