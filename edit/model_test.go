package edit

import (
	"fmt"
	"math/rand/v2"
	"slices"
	"testing"

	"towncrier/api"
	"towncrier/arena"
	"towncrier/valid"
)

// A model says P7.1 and P7.2 the other way round: a mark is set where something is to be put, what comes is struck out of all lists wherever it is, and then stands in the mark's place; parents are told by the lists alone.
type model struct{ all []api.Node }

// mark is no node's number.
const mark = -1

func (m *model) kids(id int) []int { return m.all[id-1].Kids }

func (m *model) there(id int) bool { return id >= 1 && id <= len(m.all) }

// settle tells the nodes with the parents that the lists tell.
func (m *model) settle() []api.Node {
	for i := range m.all {
		m.all[i].Parent = 0
	}
	for i := range m.all {
		for _, kid := range m.all[i].Kids {
			m.all[kid-1].Parent = i + 1
		}
	}
	return m.all
}

func (m *model) strike(ids []int) {
	for i := range m.all {
		m.all[i].Kids = slices.DeleteFunc(m.all[i].Kids, func(kid int) bool { return slices.Contains(ids, kid) })
	}
}

func (m *model) before(node, parent, child int) {
	come := []int{node}
	if m.all[node-1].Kind == fragment {
		come = slices.Clone(m.kids(node))
	}
	at := len(m.kids(parent))
	if child != 0 {
		at = slices.Index(m.kids(parent), child)
	}
	if child == node {
		at++
	}
	m.all[parent-1].Kids = slices.Insert(m.kids(parent), at, mark)
	m.strike(come)
	at = slices.Index(m.kids(parent), mark)
	m.all[parent-1].Kids = slices.Replace(m.kids(parent), at, at+1, come...)
}

func (m *model) remove(node, parent int) api.Errno {
	if !m.there(node) || !m.there(parent) {
		return arg
	}
	if !slices.Contains(m.kids(parent), node) {
		return notFound
	}
	m.strike([]int{node})
	return ok
}

func (m *model) clear(parent int) api.Errno {
	if !m.there(parent) {
		return arg
	}
	m.strike(slices.Clone(m.kids(parent)))
	return ok
}

func expectModel(t *testing.T, f *arena.Forest, m *model, what string) {
	t.Helper()
	if got, want := told(f), fmt.Sprintf("%+v", m.settle()); got != want {
		t.Fatalf("%s: the forest is\n%s, not\n%s", what, got, want)
	}
}

// again gives a forest with these nodes.
func again(t *testing.T, all []api.Node) *arena.Forest {
	t.Helper()
	f := arena.New()
	for _, n := range all {
		_, e := f.Make(n)
		expectOK(t, e)
	}
	for i, n := range all {
		put(t, f, i+1, n.Kids...)
		if n.Shadow != 0 {
			expectOK(t, f.Tie(i+1, n.Shadow))
		}
	}
	return f
}

// TestEveryCallOnSmallForests makes each call that there is on forests that are made by chance, each on a new one.
func TestEveryCallOnSmallForests(t *testing.T) {
	counts := map[string]int{}
	for round := range 100 {
		c := rand.New(rand.NewPCG(7, uint64(round)))
		f := arena.New()
		for range 3 + c.IntN(7) {
			growByChance(t, f, c)
		}
		all := f.All()
		for a := -1; a <= len(all)+1; a++ {
			expectClear(t, again(t, all), a)
			for b := -1; b <= len(all)+1; b++ {
				expectRemove(t, again(t, all), a, b)
				for child := -1; child <= len(all)+1; child++ {
					expectPut(t, again(t, all), a, b, child, counts)
				}
			}
		}
	}
	expectCounts(t, counts, 100)
}

// TestManyCallsOnGreatForests makes calls by chance, one after the other, on forests that stay.
func TestManyCallsOnGreatForests(t *testing.T) {
	counts := map[string]int{}
	for round := range 6 {
		c := rand.New(rand.NewPCG(77, uint64(round)))
		f := arena.New()
		for range []int{20, 40, api.MaxNodes}[round%3] {
			growByChance(t, f, c)
		}
		for range 2000 {
			node, parent, child := callByChance(f, c)
			switch c.IntN(24) {
			case 0:
				expectClear(t, f, parent)
			case 1, 2:
				expectRemove(t, f, node, parent)
			case 3:
				// What only the forest itself does: fragments that have a parent.
				insertByChance(f, c, parent, node)
			default:
				expectPut(t, f, node, parent, child, counts)
			}
		}
	}
	expectCounts(t, counts, 40)
}

// callByChance picks a node, a parent, and mostly a child of that.
func callByChance(f *arena.Forest, c *rand.Rand) (int, int, int) {
	node, parent, child := c.IntN(f.Len()+2), 1+c.IntN(f.Len()), c.IntN(f.Len()+2)
	n, _ := f.Node(node)
	if n.Parent != 0 && c.IntN(3) == 0 {
		parent = n.Parent
	}
	p, _ := f.Node(parent)
	if len(p.Kids) > 0 && c.IntN(4) > 0 {
		child = p.Kids[c.IntN(len(p.Kids))]
	}
	return node, parent, child
}

func expectPut(t *testing.T, f *arena.Forest, node, parent, child int, counts map[string]int) {
	t.Helper()
	m := &model{f.All()}
	want := valid.Check(f, node, parent, child)
	counts[kindOf(m, node, parent, child, want)]++
	if want == ok {
		m.before(node, parent, child)
	}
	what := fmt.Sprintf("Before(%d, %d, %d)", node, parent, child)
	expectErrno(t, what, Before(f, node, parent, child), want)
	expectModel(t, f, m, what)
}

func expectRemove(t *testing.T, f *arena.Forest, node, parent int) {
	t.Helper()
	m := &model{f.All()}
	what := fmt.Sprintf("Remove(%d, %d)", node, parent)
	expectErrno(t, what, Remove(f, node, parent), m.remove(node, parent))
	expectModel(t, f, m, what)
}

func expectClear(t *testing.T, f *arena.Forest, parent int) {
	t.Helper()
	m := &model{f.All()}
	what := fmt.Sprintf("Clear(%d)", parent)
	expectErrno(t, what, Clear(f, parent), m.clear(parent))
	expectModel(t, f, m, what)
}

// kinds are the sorts of calls of Before that are told apart.
var kinds = []string{"error 1", "error 3", "error 4", "new", "moved", "same", "itself", "fragment", "fragment that has a parent", "fragment of parent", "fragment itself"}

func kindOf(m *model, node, parent, child int, e api.Errno) string {
	if e != ok {
		return fmt.Sprintf("error %d", int(e))
	}
	n := m.all[node-1]
	cases := []bool{child == node, n.Parent == parent, n.Parent != 0}
	names := []string{"itself", "same", "moved", "new"}
	if n.Kind == fragment {
		names = []string{"fragment itself", "fragment of parent", "fragment that has a parent", "fragment"}
	}
	at := slices.Index(cases, true)
	if at < 0 {
		at = len(cases)
	}
	return names[at]
}

// expectCounts sees to it that each sort came up: else the test would say little of it.
func expectCounts(t *testing.T, counts map[string]int, least int) {
	t.Helper()
	for _, kind := range kinds {
		if counts[kind] < least {
			t.Errorf("%s: only %d times", kind, counts[kind])
		}
	}
	if len(counts) != len(kinds) {
		t.Error(counts)
	}
}

func growByChance(t *testing.T, f *arena.Forest, c *rand.Rand) {
	t.Helper()
	kinds := []int{document, element, element, element, element, element, shadow, fragment, fragment, fragment}
	id := sow(t, f, []int{kinds[c.IntN(len(kinds))]})[0]
	// Mostly the new node is put or tied somewhere; where that can't be, it stays alone.
	insertByChance(f, c, 1+c.IntN(id), id)
	f.Tie(1+c.IntN(id), id)
}

func insertByChance(f *arena.Forest, c *rand.Rand, parent, id int) {
	n, _ := f.Node(parent)
	f.Put(parent, slices.Insert(n.Kids, c.IntN(len(n.Kids)+1), id)...)
}
