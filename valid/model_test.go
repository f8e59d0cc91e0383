package valid

import (
	"math/rand/v2"
	"slices"
	"testing"

	"towncrier/api"
	"towncrier/arena"
)

// A model says P6.1 and P6.2 the other way round: it goes down, by lists of children and shadow roots alone, where the program goes up by parents and hosts, and it puts the list of children together that a Document would get.
type model struct {
	all   []api.Node
	below [][]bool
}

func newModel(all []api.Node) *model {
	m := &model{all: all, below: make([][]bool, len(all))}
	for i := range all {
		m.below[i] = make([]bool, len(all))
		m.mark(m.below[i], i+1)
	}
	return m
}

func (m *model) mark(seen []bool, id int) {
	seen[id-1] = true
	for _, kid := range m.all[id-1].Kids {
		m.mark(seen, kid)
	}
	if root := m.all[id-1].Shadow; root != 0 {
		m.mark(seen, root)
	}
}

func (m *model) there(id int) bool { return id >= 1 && id <= len(m.all) }

func (m *model) host(a, b int) bool { return m.there(a) && m.there(b) && m.below[a-1][b-1] }

// A reason is one of the chapter's for an answer of Check.
type reason struct {
	name  string
	error api.Errno
	holds func(m *model, node, parent, child int) bool
}

// reasons gives them in the chapter's order: the first that holds tells the error.
func reasons() []reason {
	return []reason{
		{"no node", arg, func(m *model, node, _, _ int) bool { return !m.there(node) }},
		{"no parent", arg, func(m *model, _, parent, _ int) bool { return !m.there(parent) }},
		{"no child", arg, func(m *model, _, _, child int) bool { return child != 0 && !m.there(child) }},
		{"ancestor", hierarchy, func(m *model, node, parent, _ int) bool { return m.host(node, parent) }},
		{"child elsewhere", notFound, func(m *model, _, parent, child int) bool {
			return child != 0 && !slices.Contains(m.all[parent-1].Kids, child)
		}},
		{"document", hierarchy, func(m *model, node, _, _ int) bool { return m.all[node-1].Kind == document }},
		{"shadow", hierarchy, func(m *model, node, _, _ int) bool { return m.all[node-1].Kind == shadow }},
		{"crowd", hierarchy, (*model).crowds},
		{"none", ok, func(*model, int, int, int) bool { return true }},
	}
}

func (m *model) crowds(node, parent, _ int) bool {
	if m.all[parent-1].Kind != document {
		return false
	}
	come := []int{node}
	if m.all[node-1].Kind == fragment {
		come = m.all[node-1].Kids
	}
	come = m.elements(come)
	return len(come) > 0 && len(slices.Concat(m.elements(m.all[parent-1].Kids), come)) > 1
}

func (m *model) elements(ids []int) []int {
	var l []int
	for _, id := range ids {
		if m.all[id-1].Kind == element {
			l = append(l, id)
		}
	}
	return l
}

func (m *model) check(node, parent, child int) reason {
	for _, r := range reasons() {
		if r.holds(m, node, parent, child) {
			return r
		}
	}
	panic("the last reason always holds")
}

func TestValidAsTheModelHasIt(t *testing.T) {
	counts := map[string]int{}
	for round := range 150 {
		c := rand.New(rand.NewPCG(6, uint64(round)))
		f := arena.New()
		for range 1 + c.IntN(12) {
			growByChance(t, f, c)
		}
		for range 3 {
			changeByChance(f, c)
			expectAsModel(t, f, counts)
		}
	}
	// If one of the reasons hardly came up, the test would say little of it.
	for _, r := range reasons() {
		if counts[r.name] < 200 {
			t.Errorf("%s: only %d times", r.name, counts[r.name])
		}
	}
}

func expectAsModel(t *testing.T, f *arena.Forest, counts map[string]int) {
	t.Helper()
	before := told(f)
	m := newModel(f.All())
	for node := -1; node <= f.Len()+1; node++ {
		for parent := -1; parent <= f.Len()+1; parent++ {
			expectHost(t, f, node, parent, m.host(node, parent))
			for child := -1; child <= f.Len()+1; child++ {
				r := m.check(node, parent, child)
				counts[r.name]++
				if got := Check(f, node, parent, child); got != r.error {
					t.Fatalf("Check(%d, %d, %d) = %d, not %d (%s) of %s", node, parent, child, int(got), int(r.error), r.name, before)
				}
			}
		}
	}
	expectUnchanged(t, f, before)
}

// TestTheGreatestForestAsTheModelHasIt asks of all pairs, and of children by chance.
func TestTheGreatestForestAsTheModelHasIt(t *testing.T) {
	c := rand.New(rand.NewPCG(6, 1000))
	f := arena.New()
	for range api.MaxNodes {
		growByChance(t, f, c)
	}
	m := newModel(f.All())
	for node := range api.MaxNodes + 2 {
		for parent := range api.MaxNodes + 2 {
			expectHost(t, f, node, parent, m.host(node, parent))
			for _, child := range []int{0, c.IntN(api.MaxNodes + 2)} {
				expectCheck(t, f, node, parent, child, m.check(node, parent, child).error)
			}
		}
	}
}

func growByChance(t *testing.T, f *arena.Forest, c *rand.Rand) {
	t.Helper()
	kinds := []int{document, element, element, element, shadow, fragment, fragment}
	id := sow(t, f, []int{kinds[c.IntN(len(kinds))]})[0]
	// Mostly the new node is put or tied somewhere; where that can't be, it stays alone.
	insertByChance(f, c, 1+c.IntN(id), id)
	f.Tie(1+c.IntN(id), id)
	changeByChance(f, c)
}

// changeByChance moves a node about, or leaves it alone; what the forest refuses is no matter here.
func changeByChance(f *arena.Forest, c *rand.Rand) {
	for range 3 {
		from, to := 1+c.IntN(f.Len()), 1+c.IntN(f.Len())
		n, _ := f.Node(from)
		if len(n.Kids) == 0 {
			insertByChance(f, c, to, from)
			continue
		}
		at := c.IntN(len(n.Kids))
		id := n.Kids[at]
		if f.Put(from, slices.Delete(n.Kids, at, at+1)...) == api.OK && c.IntN(4) > 0 {
			insertByChance(f, c, to, id)
		}
	}
}

func insertByChance(f *arena.Forest, c *rand.Rand, parent, id int) {
	n, _ := f.Node(parent)
	f.Put(parent, slices.Insert(n.Kids, c.IntN(len(n.Kids)+1), id)...)
}
