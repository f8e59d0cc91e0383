package slot

import (
	"fmt"
	"math/rand/v2"
	"slices"
	"testing"

	"towncrier/api"
	"towncrier/arena"
)

// A model says P9.1 and P9.2 another way: each node's place in tree order is worked out once, slots are looked for among all nodes by their places, and what is shown is found by replacing slots in a list till there are none.
type model struct {
	all []api.Node
	// root and place tell, by numbers, a node's root and how many nodes of all trees are ahead of it.
	root, place []int
}

func newModel(all []api.Node) *model {
	m := &model{all: all, root: make([]int, len(all)+1), place: make([]int, len(all)+1)}
	count := 0
	for i, n := range all {
		if n.Parent != 0 {
			continue
		}
		// The next node to be looked at lies on top.
		for pile := []int{i + 1}; len(pile) > 0; {
			id := pile[len(pile)-1]
			pile = pile[:len(pile)-1]
			m.root[id], m.place[id] = i+1, count
			count++
			for _, kid := range slices.Backward(m.node(id).Kids) {
				pile = append(pile, kid)
			}
		}
	}
	return m
}

func (m *model) there(id int) bool { return id >= 1 && id <= len(m.all) }

func (m *model) node(id int) api.Node { return m.all[id-1] }

// inOrder tells all nodes that fit, by their places.
func (m *model) inOrder(fits func(id int) bool) []int {
	var l []int
	for i := range m.all {
		if fits(i + 1) {
			l = append(l, i+1)
		}
	}
	slices.SortFunc(l, func(a, b int) int { return m.place[a] - m.place[b] })
	return l
}

// of tells the slot of a node, and why it is that one.
func (m *model) of(id int) (int, string) {
	switch {
	case !m.there(id):
		return 0, "of: not there"
	case m.node(id).Kind != api.Element:
		return 0, "of: no element"
	case m.node(id).Parent == 0:
		return 0, "of: no parent"
	case m.node(m.node(id).Parent).Shadow == 0:
		return 0, "of: no shadow root"
	}
	root := m.node(m.node(id).Parent).Shadow
	l := m.inOrder(func(s int) bool {
		return m.node(s).Slot && m.root[s] == root && m.node(s).Name == m.node(id).Want
	})
	switch len(l) {
	case 0:
		return 0, "of: no such name"
	case 1:
		return l[0], "of: the only one"
	}
	if l[0] != slices.Min(l) {
		return l[0], "of: the first of several, against their numbers"
	}
	return l[0], "of: the first of several"
}

// assigned leans on children of one parent standing in tree order.
func (m *model) assigned(slot int) []int {
	return m.inOrder(func(id int) bool {
		s, _ := m.of(id)
		return s != 0 && s == slot
	})
}

func (m *model) slots(root int) []int {
	return m.inOrder(func(id int) bool {
		for at := id; m.node(id).Slot && at != 0; at = m.node(at).Parent {
			if at == root {
				return true
			}
		}
		return false
	})
}

func (m *model) opensUp(id int) bool {
	return m.there(id) && m.node(id).Slot && m.node(m.root[id]).Kind == api.Shadow
}

// flat tells what is shown in a slot, and how often slots were replaced for it.
func (m *model) flat(slot int, counts map[string]int) ([]int, int) {
	if !m.opensUp(slot) {
		return nil, 0
	}
	l, times := []int{slot}, 0
	for at := slices.IndexFunc(l, m.opensUp); at >= 0; at = slices.IndexFunc(l, m.opensUp) {
		shown, why := m.assigned(l[at]), "flat: assigned"
		if len(shown) == 0 {
			shown, why = m.elementsBelow(l[at]), "flat: children"
			if len(shown) < len(m.node(l[at]).Kids) {
				why = "flat: children, not all of them"
			}
		}
		if len(shown) == 0 {
			why = "flat: nothing"
		}
		counts[why]++
		l = slices.Replace(l, at, at+1, shown...)
		times++
	}
	return l, times
}

func (m *model) elementsBelow(id int) []int {
	return m.inOrder(func(kid int) bool { return m.node(kid).Parent == id && m.node(kid).Kind == api.Element })
}

func TestSlotAsTheModelHasIt(t *testing.T) {
	counts := map[string]int{}
	for round := range 1500 {
		c := rand.New(rand.NewPCG(9, uint64(round)))
		f := arena.New()
		for range 1 + c.IntN(40) {
			growByChance(t, f, c)
		}
		expectAsModel(t, f, counts)
	}
	expectCounts(t, counts, 100)
}

func TestTheGreatestForestsAsTheModelHasThem(t *testing.T) {
	counts := map[string]int{}
	for round := range 40 {
		c := rand.New(rand.NewPCG(99, uint64(round)))
		f := arena.New()
		for f.Len() < api.MaxNodes {
			growByChance(t, f, c)
		}
		expectAsModel(t, f, counts)
	}
	expectCounts(t, counts, 10)
}

func expectAsModel(t *testing.T, f *arena.Forest, counts map[string]int) {
	t.Helper()
	before := told(f)
	m := newModel(f.All())
	for id := -1; id <= f.Len()+1; id++ {
		slot, why := m.of(id)
		counts[why]++
		assigned, slots := m.assigned(id), m.slots(id)
		flat, times := m.flat(id, counts)
		counts[fmt.Sprint("assigned: ", min(len(assigned), 3))]++
		counts[fmt.Sprint("slots: ", min(len(slots), 3))]++
		counts[fmt.Sprint("replaced: ", min(times, 4))]++
		got := fmt.Sprint(Of(f, id), Assigned(f, id), Slots(f, id), Flat(f, id))
		if want := fmt.Sprint(slot, assigned, slots, flat); got != want {
			t.Fatalf("of node %d is told %s, not %s (%s) in %s", id, got, want, why, before)
		}
	}
	expectUnchanged(t, f, before)
}

// expectCounts sees to it that each case came up: else the test would say little of it.
func expectCounts(t *testing.T, counts map[string]int, least int) {
	t.Helper()
	for _, what := range []string{
		"of: not there", "of: no element", "of: no parent", "of: no shadow root", "of: no such name",
		"of: the only one", "of: the first of several", "of: the first of several, against their numbers",
		"assigned: 0", "assigned: 1", "assigned: 2", "assigned: 3",
		"slots: 0", "slots: 1", "slots: 2", "slots: 3",
		"flat: assigned", "flat: children", "flat: children, not all of them", "flat: nothing",
		"replaced: 0", "replaced: 1", "replaced: 2", "replaced: 3", "replaced: 4",
	} {
		if counts[what] < least {
			t.Errorf("%s: only %d times", what, counts[what])
		}
	}
}

// growByChance adds a node and puts it somewhere, and sometimes ties it; what is refused is no matter to the forest.
func growByChance(t *testing.T, f *arena.Forest, c *rand.Rand) {
	t.Helper()
	names := []string{"", "", "a"}
	name, want := names[c.IntN(len(names))], names[c.IntN(len(names))]
	nodes := []api.Node{document, fragment, fragment, opened, closed, wants(want), wants(want), wants(want), both(name, want), both(name, want), both(name, want), named(name)}
	id, e := f.Make(nodes[c.IntN(len(nodes))])
	if e != ok {
		t.Fatal(e)
	}
	parent := parentByChance(f, c)
	n, _ := f.Node(parent)
	f.Put(parent, slices.Insert(n.Kids, c.IntN(len(n.Kids)+1), id)...)
	for range 6 {
		f.Tie(1+c.IntN(id), id)
	}
}

// parentByChance mostly tells a host or what is in a shadow tree, where slots matter.
func parentByChance(f *arena.Forest, c *rand.Rand) int {
	m := newModel(f.All())
	near := m.inOrder(func(id int) bool { return m.node(id).Shadow != 0 || m.node(m.root[id]).Kind == api.Shadow })
	if len(near) == 0 || c.IntN(5) == 0 {
		return 1 + c.IntN(f.Len())
	}
	return near[c.IntN(len(near))]
}
