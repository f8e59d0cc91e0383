package listen

import (
	"fmt"
	"math"
	"math/rand/v2"
	"testing"

	"towncrier/api"
	"towncrier/word"
)

// A model says P12.1 and P12.2 of one book: there are no lists by nodes in it, so all that is asked is looked for among all records.
type model struct{ book }

func (m *model) add(node int, x api.Listener) (int, api.Errno) {
	r := record{node, x.Type, x.Callback, x.Options, false}
	switch {
	case node < 1 || x.Callback < 1 || x.Signal < 0 || !word.Right(x.Type):
		return 0, api.ErrArg
	case len(m.book) == 512:
		return 0, api.ErrFull
	case m.find(r) != 0:
		return 0, ok
	}
	m.book = m.with(r)
	return len(m.book), ok
}

func (m *model) kill(id int) bool {
	if id < 1 || id > len(m.book) || m.book[id-1].removed {
		return false
	}
	m.book = m.without(id)
	return true
}

// wasRemoved says whether there was one that is alike at that node.
func (m *model) wasRemoved(node int, x api.Listener) bool {
	for _, r := range m.book {
		if r.removed && r.node == node && r.typ == x.Type && r.callback == x.Callback && r.Capture == x.Capture {
			return true
		}
	}
	return false
}

// A chance is a source of steps that are the same in each run.
type chance struct {
	*rand.Rand
	nodes, types, callbacks int
}

func newChance(seed, round int) chance {
	c := chance{Rand: rand.New(rand.NewPCG(uint64(seed), uint64(round)))}
	// Where there are few of each, more are alike.
	c.nodes, c.types, c.callbacks = 1+c.IntN(9), 1+c.IntN(4), 1+c.IntN(20)
	return c
}

func (c chance) yes() bool { return c.IntN(2) == 0 }

func (c chance) node() int {
	if c.IntN(40) == 0 {
		return []int{0, -1, math.MinInt, math.MaxInt, 1<<32 + 1, 129}[c.IntN(6)]
	}
	return 1 + c.IntN(c.nodes)
}

func (c chance) typ() string {
	if c.IntN(40) == 0 {
		return wrongTypes[c.IntN(len(wrongTypes))]
	}
	return []string{"a", "b", "aa", "click"}[c.IntN(c.types)]
}

func (c chance) callback() int {
	if c.IntN(40) == 0 {
		return []int{0, -1, math.MinInt, math.MaxInt, 1<<32 + 1}[c.IntN(5)]
	}
	return 1 + c.IntN(c.callbacks)
}

func (c chance) signal() int {
	if c.IntN(40) == 0 {
		return []int{-1, math.MinInt, math.MaxInt}[c.IntN(3)]
	}
	return c.IntN(3)
}

func (c chance) listener() api.Listener {
	return api.Listener{
		Id:       c.IntN(600) - 40,
		Type:     c.typ(),
		Callback: c.callback(),
		Options:  api.Options{Capture: c.yes(), Once: c.yes(), Passive: c.yes(), Signal: c.signal()},
		Removed:  c.yes(),
	}
}

// id tells the number of one of n listeners, mostly.
func (c chance) id(n int) int {
	if n == 0 || c.IntN(20) == 0 {
		others := append([]int{n + 1, n + 2, -n}, strays...)
		return others[c.IntN(len(others))]
	}
	// The newest ones are there still, more than others.
	if c.yes() {
		return max(1, n-c.IntN(8))
	}
	return 1 + c.IntN(n)
}

func TestListsAsTheModelHasThem(t *testing.T) {
	counts := map[string]int{}
	for round := range 400 {
		c := newChance(12, round)
		l, m := New(), &model{}
		steps, kills := 20+c.IntN(100), 1+c.IntN(10)
		if round%20 == 0 {
			// Enough to have them full.
			c.nodes, c.callbacks, steps = 9, 1000, 800
		}
		for step := range steps {
			if c.IntN(12) < kills {
				killAsModel(t, l, m, c, counts)
			} else {
				addAsModel(t, l, m, c, counts)
			}
			findAsModel(t, l, m, c, counts)
			if steps < 200 || step%50 == 0 {
				expectBook(t, l, m.book)
			}
		}
		expectBook(t, l, m.book)
	}
	expectCounts(t, counts)
}

func addAsModel(t *testing.T, l *Lists, m *model, c chance, counts map[string]int) {
	t.Helper()
	node, x := c.node(), c.listener()
	was := m.wasRemoved(node, x)
	want, wantError := m.add(node, x)
	expectAdd(t, l, want, wantError, node, x)
	sort := fmt.Sprint("Add: ", int(wantError), ", added ", want != 0)
	if want != 0 {
		sort += fmt.Sprint(", again ", was)
	}
	counts[sort]++
}

func killAsModel(t *testing.T, l *Lists, m *model, c chance, counts map[string]int) {
	t.Helper()
	id := c.id(len(m.book))
	there := id >= 1 && id <= len(m.book)
	at := 0
	if there {
		at = len(m.at(m.book[id-1].node))
	}
	want := m.kill(id)
	if l.Kill(id) != want {
		t.Fatalf("Kill(%d) = %v", id, !want)
	}
	sort := fmt.Sprint("Kill: ", want, ", there ", there)
	if want {
		sort += fmt.Sprint(", of ", min(at, 3))
	}
	counts[sort]++
}

func findAsModel(t *testing.T, l *Lists, m *model, c chance, counts map[string]int) {
	t.Helper()
	node, x := c.node(), c.listener()
	want := m.find(record{node: node, typ: x.Type, callback: x.Callback, Options: x.Options})
	expectFind(t, l, want, node, x.Type, x.Callback, x.Capture)
	counts[fmt.Sprint("Find: ", want != 0, ", was removed ", m.wasRemoved(node, x))]++
}

// expectCounts sees to it that each sort of a step came up: else the test would say little of it.
func expectCounts(t *testing.T, counts map[string]int) {
	t.Helper()
	sorts := []string{
		"Add: 0, added true, again false", "Add: 0, added true, again true", "Add: 0, added false", "Add: 1, added false", "Add: 9, added false",
		"Kill: true, there true, of 1", "Kill: true, there true, of 2", "Kill: true, there true, of 3",
		"Kill: false, there true", "Kill: false, there false",
		"Find: true, was removed true", "Find: true, was removed false", "Find: false, was removed true", "Find: false, was removed false",
	}
	for _, sort := range sorts {
		if counts[sort] < 200 {
			t.Errorf("%s: only %d times", sort, counts[sort])
		}
	}
	if len(counts) != len(sorts) {
		t.Errorf("there are %d sorts: %v", len(counts), counts)
	}
}
