package path

import (
	"fmt"
	"math/rand/v2"
	"slices"
	"testing"

	"towncrier/api"
	"towncrier/arena"
	"towncrier/shade"
)

// A model says P14.1 another way: from without to within, and in passes. Each node's way through the trees around it and each node's parent, for an event that is composed, are worked out once, ahead of all questions; a path is then the chain of these parents, which is cut, and of which each entry is told by itself: the target is told at just those nodes that stand for it in a tree around it.
type model struct {
	all  []api.Node
	ways [][]place
	// parent and slotted tell, by numbers, a node's parent for an event that is composed, and whether it is its slot.
	parent  []int
	slotted []bool
}

// A place is a node that stands for another one in a tree, and the root of that tree.
type place struct{ id, root int }

func newModel(all []api.Node) *model {
	size := len(all) + 1
	m := &model{all: all, ways: make([][]place, size), parent: make([]int, size), slotted: make([]bool, size)}
	for i, n := range all {
		if n.Parent == 0 && n.Host == 0 {
			m.enter(i+1, i+1, nil)
		}
	}
	for i := range all {
		m.fill(i + 1)
	}
	return m
}

func (m *model) enter(id, root int, around []place) {
	m.ways[id] = append(slices.Clone(around), place{id, root})
	n := m.all[id-1]
	for _, kid := range n.Kids {
		m.enter(kid, root, around)
	}
	if n.Shadow != 0 {
		m.enter(n.Shadow, n.Shadow, m.ways[id])
	}
}

// fill says of a node's children, and of its shadow root, where their events go on.
func (m *model) fill(id int) {
	n := m.all[id-1]
	slots := map[string]int{}
	var look func(at int)
	look = func(at int) {
		// Those ahead are looked at last, and win.
		for _, kid := range slices.Backward(m.all[at-1].Kids) {
			look(kid)
		}
		if m.all[at-1].Slot {
			slots[m.all[at-1].Name] = at
		}
	}
	if n.Shadow != 0 {
		look(n.Shadow)
		m.parent[n.Shadow] = id
	}
	for _, kid := range n.Kids {
		m.parent[kid] = id
		if s := slots[m.all[kid-1].Want]; s != 0 && m.all[kid-1].Kind == api.Element {
			m.parent[kid], m.slotted[kid] = s, true
		}
	}
}

func (m *model) way(id int) []place {
	if id < 1 || id >= len(m.ways) {
		return nil
	}
	return m.ways[id]
}

func (m *model) root(id int) int {
	way := m.way(id)
	if len(way) == 0 {
		return 0
	}
	return way[len(way)-1].root
}

// parentOf tells the parent for any event.
func (m *model) parentOf(id, first int, composed bool) int {
	if m.root(id) == 0 || !composed && id == m.root(first) {
		return 0
	}
	return m.parent[id]
}

// aim tells a aimed at b: of the way of a the last place of which both have the root, or the first.
func (m *model) aim(a, b int) int {
	from, to := m.way(a), m.way(b)
	if len(from) == 0 {
		return 0
	}
	at := 0
	for at+1 < len(from) && at+1 < len(to) && from[at+1].root == to[at+1].root {
		at++
	}
	return from[at].id
}

func (m *model) isClosed(id int) bool { return m.all[id-1].Mode == api.Closed }

// path tells the path, and of what sort it is.
func (m *model) path(target, related int, composed bool) ([]api.Step, string) {
	var path []api.Step
	stands := func(id int) bool {
		return slices.ContainsFunc(m.way(target), func(p place) bool { return p.id == id })
	}
	for id := target; m.root(id) != 0; id = m.parentOf(id, target, composed) {
		x := m.aim(related, id)
		// Ahead of all others a related that is the target itself is told.
		if stands(id) && x == id && !(len(path) == 0 && related == target) {
			return path, m.sort(target, related, composed, "ends", path)
		}
		s := api.Step{Node: id, Related: x, ClosedRoot: m.isClosed(id)}
		if stands(id) {
			s.Target = id
		}
		if len(path) > 0 && m.slotted[path[len(path)-1].Node] {
			s.ClosedSlot = m.isClosed(m.root(id))
		}
		path = append(path, s)
	}
	return path, m.sort(target, related, composed, "runs out", path)
}

func (m *model) sort(target, related int, composed bool, end string, path []api.Step) string {
	if m.root(target) == 0 {
		return fmt.Sprint("no target, related there: ", m.root(related) != 0)
	}
	if related == target {
		return fmt.Sprint("itself, ", end, ", composed: ", composed)
	}
	if m.root(related) == 0 {
		return fmt.Sprint("no related, composed: ", composed, ", targets: ", min(targets(path), 3))
	}
	return fmt.Sprint(end, ", composed: ", composed, ", targets: ", min(targets(path), 3))
}

func targets(path []api.Step) int {
	count := 0
	for _, s := range path {
		if s.Target != 0 {
			count++
		}
	}
	return count
}

func TestPathAsTheModelHasIt(t *testing.T) {
	counts := map[string]int{}
	for round := range 800 {
		c := rand.New(rand.NewPCG(14, uint64(round)))
		f := arena.New()
		for range 1 + c.IntN(18) {
			growByChance(t, f, c)
		}
		m := newModel(f.All())
		for target := -1; target <= f.Len()+1; target++ {
			for related := -1; related <= f.Len()+1; related++ {
				expectAsModel(t, f, m, target, related, counts)
			}
		}
		expectUnchanged(t, f, fmt.Sprintf("%+v", m.all))
	}
	expectCounts(t, counts, 200)
}

func TestTheGreatestForestsAsTheModelHasThem(t *testing.T) {
	counts := map[string]int{}
	for round := range 60 {
		c := rand.New(rand.NewPCG(1414, uint64(round)))
		f := arena.New()
		for f.Len() < api.MaxNodes {
			growByChance(t, f, c)
		}
		m := newModel(f.All())
		for range 400 {
			target, related := c.IntN(f.Len()+2), c.IntN(f.Len()+2)
			switch c.IntN(4) {
			case 0:
				related = target
			case 1:
				related = nearByChance(m, c, target)
			}
			expectAsModel(t, f, m, target, related, counts)
		}
		expectUnchanged(t, f, fmt.Sprintf("%+v", m.all))
	}
	expectCounts(t, counts, 20)
}

// nearByChance tells a node of the trees in which a node lies, or that lie in it.
func nearByChance(m *model, c *rand.Rand, id int) int {
	var near []int
	for other := range m.ways {
		if m.aim(other, id) != other || len(m.way(id)) > 1 && m.root(other) == m.root(m.way(id)[0].id) {
			near = append(near, other)
		}
	}
	if len(near) == 0 {
		return 0
	}
	return near[c.IntN(len(near))]
}

func expectAsModel(t *testing.T, f *arena.Forest, m *model, target, related int, counts map[string]int) {
	t.Helper()
	for _, composed := range []bool{false, true} {
		expectParent(t, f, target, related, composed, m.parentOf(target, related, composed))
		want, sort := m.path(target, related, composed)
		if got := Make(f, target, related, composed); !slices.Equal(got, want) {
			t.Fatalf("Make(%d, %d, %v) = %s\nnot %s (%s) in %s", target, related, composed, text(got), text(want), sort, told(f))
		}
		expectWay(t, f, target, related, composed)
		counts[sort]++
		for i, s := range want {
			counts[sortOf(m, i, s)]++
		}
	}
}

// sortOf tells of what sort an entry is.
func sortOf(m *model, i int, s api.Step) string {
	what := "other"
	if m.all[s.Node-1].Kind == api.Shadow {
		what = "shadow"
	} else if m.all[s.Node-1].Slot {
		what = "slot"
	}
	return fmt.Sprint(what, ", first: ", i == 0, ", closed: ", m.isClosed(m.root(s.Node)), ", by slot: ", s.ClosedSlot)
}

// expectCounts sees to it that each sort came up: else the test would say little of it.
func expectCounts(t *testing.T, counts map[string]int, least int) {
	t.Helper()
	sorts := []string{
		"no target, related there: false", "no target, related there: true",
		"slot, first: false, closed: true, by slot: true",
	}
	for _, yes := range []bool{false, true} {
		sorts = append(sorts, fmt.Sprint("itself, runs out, composed: ", yes), fmt.Sprint("ends, composed: ", yes, ", targets: 0"))
		for n := 1; n <= 3; n++ {
			if yes || n == 1 {
				sorts = append(sorts,
					fmt.Sprint("no related, composed: ", yes, ", targets: ", n),
					fmt.Sprint("runs out, composed: ", yes, ", targets: ", n))
			}
		}
		for _, what := range []string{"other", "slot", "shadow"} {
			sorts = append(sorts,
				fmt.Sprint(what, ", first: ", yes, ", closed: false, by slot: false"),
				fmt.Sprint(what, ", first: ", yes, ", closed: true, by slot: false"))
		}
	}
	// An event that isn't composed ends at the first one's root, ahead of the host.
	sorts = append(sorts, "itself, ends, composed: true")
	for n := 1; n <= 3; n++ {
		sorts = append(sorts, fmt.Sprint("ends, composed: true, targets: ", n))
	}
	for _, sort := range sorts {
		if counts[sort] < least {
			t.Errorf("%s: only %d times", sort, counts[sort])
		}
	}
	if len(counts) != len(sorts) {
		t.Errorf("there are %d sorts, not %d: %v", len(counts), len(sorts), counts)
	}
}

// growByChance adds a node and mostly puts or ties it somewhere, or attaches; what is refused is no matter to the forest.
func growByChance(t *testing.T, f *arena.Forest, c *rand.Rand) {
	t.Helper()
	names := []string{"", "", "a"}
	name, want := names[c.IntN(len(names))], names[c.IntN(len(names))]
	nodes := []api.Node{document, fragment, opened, closed, wants(want), wants(want), wants(want), both(name, want), both(name, want), both(name, want)}
	id, e := f.Make(nodes[c.IntN(len(nodes))])
	if e != ok {
		t.Fatal(e)
	}
	parent := parentByChance(f, c)
	n, _ := f.Node(parent)
	f.Put(parent, slices.Insert(n.Kids, c.IntN(len(n.Kids)+1), id)...)
	for range 6 {
		f.Tie(1+c.IntN(id), id)
	}
	if n, _ := f.Node(id); n.Kind == api.Element && c.IntN(3) == 0 {
		shade.Attach(f, id, 1+c.IntN(2))
	}
}

// parentByChance mostly tells a host or what is in a shadow tree, where slots matter.
func parentByChance(f *arena.Forest, c *rand.Rand) int {
	if newest, _ := f.Node(f.Len() - 1); newest.Kind == api.Shadow && c.IntN(2) == 0 {
		// Trees in new shadow trees go deep.
		return f.Len() - 1
	}
	var near []int
	m := newModel(f.All())
	for id := 1; id <= f.Len(); id++ {
		if m.all[id-1].Shadow != 0 || m.all[m.root(id)-1].Kind == api.Shadow {
			near = append(near, id)
		}
	}
	if len(near) == 0 || c.IntN(4) == 0 {
		return 1 + c.IntN(f.Len())
	}
	return near[c.IntN(len(near))]
}
