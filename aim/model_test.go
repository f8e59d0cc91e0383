package aim

import (
	"fmt"
	"math/rand/v2"
	"slices"
	"testing"

	"towncrier/api"
	"towncrier/arena"
	"towncrier/shade"
)

// A model says P10.1 another way: from without to within. A node's way is the list of what stands for it in each of the trees around it, the outermost first, with those trees' roots; of the way of a that place is told which is the last one that both a and b have the root of, or the first.
type model struct {
	ways [][]place
}

// A place is a node that stands for another one in a tree, and the root of that tree.
type place struct{ id, root int }

func newModel(all []api.Node) *model {
	m := &model{ways: make([][]place, len(all)+1)}
	var enter func(id, root int, around []place)
	enter = func(id, root int, around []place) {
		m.ways[id] = append(slices.Clone(around), place{id, root})
		n := all[id-1]
		for _, kid := range n.Kids {
			enter(kid, root, around)
		}
		if n.Shadow != 0 {
			enter(n.Shadow, n.Shadow, m.ways[id])
		}
	}
	for i, n := range all {
		if n.Parent == 0 && n.Host == 0 {
			enter(i+1, i+1, nil)
		}
	}
	return m
}

func (m *model) way(id int) []place {
	if id < 1 || id >= len(m.ways) {
		return nil
	}
	return m.ways[id]
}

// aim tells what is told for a, and how many trees are left behind.
func (m *model) aim(a, b int) (int, int) {
	from, to := m.way(a), m.way(b)
	if len(from) == 0 {
		return 0, 0
	}
	at := 0
	for at+1 < len(from) && at+1 < len(to) && from[at+1].root == to[at+1].root {
		at++
	}
	return from[at].id, len(from) - 1 - at
}

func TestAimAsTheModelHasIt(t *testing.T) {
	counts := map[string]int{}
	for round := range 300 {
		c := rand.New(rand.NewPCG(10, uint64(round)))
		f := arena.New()
		for range 1 + c.IntN(20) {
			growByChance(t, f, c)
		}
		expectAsModel(t, f, counts)
	}
	expectCounts(t, counts, 300)
}

func TestTheGreatestForestsAsTheModelHasThem(t *testing.T) {
	counts := map[string]int{}
	for round := range 4 {
		c := rand.New(rand.NewPCG(1010, uint64(round)))
		f := arena.New()
		for f.Len() < api.MaxNodes {
			growByChance(t, f, c)
		}
		expectAsModel(t, f, counts)
	}
	expectCounts(t, counts, 36)
}

func expectAsModel(t *testing.T, f *arena.Forest, counts map[string]int) {
	t.Helper()
	before := told(f)
	m := newModel(f.All())
	for a := -1; a <= f.Len()+1; a++ {
		for b := -1; b <= f.Len()+1; b++ {
			wantA, left := m.aim(a, b)
			wantB, _ := m.aim(b, a)
			expectAim(t, f, a, b, wantA)
			expectBoth(t, f, a, b, wantA, wantB)
			expectPlain(t, f, a, b)
			counts[m.sort(f, a, b, left)]++
		}
	}
	expectUnchanged(t, f, before)
}

// sort tells what sort of a question it is.
func (m *model) sort(f *arena.Forest, a, b, left int) string {
	from, to := m.way(a), m.way(b)
	if len(from) == 0 || len(to) == 0 {
		return fmt.Sprint("a there: ", len(from) > 0, ", b there: ", len(to) > 0, ", left: ", min(left, 3))
	}
	return fmt.Sprint("one whole: ", from[0].root == to[0].root, ", hidden: ", shade.Hidden(f, a, b), ", left: ", min(left, 3))
}

// expectCounts sees to it that each sort came up: else the test would say little of it.
func expectCounts(t *testing.T, counts map[string]int, least int) {
	t.Helper()
	sorts := []string{
		"a there: false, b there: true, left: 0",
		"a there: false, b there: false, left: 0",
		"a there: true, b there: false, left: 0",
		"one whole: true, hidden: false, left: 0",
		"one whole: false, hidden: false, left: 0",
	}
	for left := 1; left <= 3; left++ {
		sorts = append(sorts, fmt.Sprint("a there: true, b there: false, left: ", left))
		for _, hidden := range []bool{false, true} {
			sorts = append(sorts,
				fmt.Sprint("one whole: true, hidden: ", hidden, ", left: ", left),
				fmt.Sprint("one whole: false, hidden: ", hidden, ", left: ", left))
		}
	}
	for _, sort := range sorts {
		if counts[sort] < least {
			t.Errorf("%s: only %d times", sort, counts[sort])
		}
	}
	if len(counts) != len(sorts) {
		t.Errorf("there are %d sorts: %v", len(counts), counts)
	}
}

// growByChance adds a node and mostly puts or ties it somewhere, or attaches; what is refused is no matter to the forest.
func growByChance(t *testing.T, f *arena.Forest, c *rand.Rand) {
	t.Helper()
	nodes := []api.Node{document, element, element, element, element, element, element, opened, closed, fragment}
	id, e := f.Make(nodes[c.IntN(len(nodes))])
	if e != ok {
		t.Fatal(e)
	}
	parent := 1 + c.IntN(id)
	if newest, _ := f.Node(id - 1); newest.Kind == api.Shadow {
		// Trees in new shadow trees go deep.
		parent = id - 1
	}
	n, _ := f.Node(parent)
	f.Put(parent, slices.Insert(n.Kids, c.IntN(len(n.Kids)+1), id)...)
	if c.IntN(2) == 0 {
		f.Tie(1+c.IntN(id), id)
	}
	if c.IntN(4) > 0 {
		shade.Attach(f, id, 1+c.IntN(2))
	}
}
