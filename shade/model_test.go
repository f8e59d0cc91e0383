package shade

import (
	"fmt"
	"math/rand/v2"
	"slices"
	"testing"

	"towncrier/api"
	"towncrier/arena"
)

// A model says P8.1 and P8.2 another way: who holds whom is worked out for all pairs at once, by the lists of children and the hosts' shadow roots, and what is hidden word by word as the chapter has it.
type model struct {
	all   []api.Node
	holds [][]bool
}

func newModel(all []api.Node) *model {
	m := &model{all: all, holds: make([][]bool, len(all)+1)}
	for a := range m.holds {
		m.holds[a] = make([]bool, len(all)+1)
	}
	for i, n := range all {
		for _, b := range append(n.Kids, n.Shadow, i+1) {
			m.holds[i+1][b] = true
		}
	}
	for by := 1; by <= len(all); by++ {
		for a := 1; a <= len(all); a++ {
			for b := 1; b <= len(all) && m.holds[a][by]; b++ {
				m.holds[a][b] = m.holds[a][b] || m.holds[by][b]
			}
		}
	}
	return m
}

func (m *model) there(id int) bool { return id >= 1 && id <= len(m.all) }

func (m *model) node(id int) api.Node { return m.all[id-1] }

// holders tells who holds a node, the innermost first.
func (m *model) holders(id int) []int {
	var l []int
	for a := 1; a <= len(m.all) && m.there(id); a++ {
		if m.holds[a][id] {
			l = append(l, a)
		}
	}
	slices.SortFunc(l, func(a, b int) int { return m.depth(b) - m.depth(a) })
	return l
}

// depth tells how many hold a node.
func (m *model) depth(id int) int {
	count := 0
	for _, row := range m.holds {
		if row[id] {
			count++
		}
	}
	return count
}

func (m *model) whole(id int) int {
	l := m.holders(id)
	if len(l) == 0 {
		return 0
	}
	return l[len(l)-1]
}

func (m *model) closed(id int) []int {
	return slices.DeleteFunc(m.holders(id), func(a int) bool {
		return m.node(a).Kind != api.Shadow || m.node(a).Mode != api.Closed
	})
}

// hidden tells why a is hidden from b, or why not.
func (m *model) hidden(a, b int) string {
	if !m.there(a) || !m.there(b) {
		return "no: not there"
	}
	root := a
	for m.node(root).Parent != 0 {
		root = m.node(root).Parent
	}
	switch r := m.node(root); {
	case r.Kind != api.Shadow:
		return "no: no shadow"
	case r.Host == 0:
		return "no: no host"
	case m.holds[root][b]:
		return "no: held"
	case r.Mode == api.Closed:
		return "yes: closed"
	default:
		return m.hidden(r.Host, b) + ", by a host"
	}
}

func (m *model) attach(host, mode int) (int, api.Errno) {
	switch {
	case !m.there(host), mode != api.Open && mode != api.Closed:
		return 0, arg
	case m.node(host).Kind != api.Element, m.node(host).Shadow != 0:
		return 0, notSupported
	case len(m.all) == api.MaxNodes:
		return 0, full
	}
	return len(m.all) + 1, ok
}

// deep gives the reasons with only one host named.
func deep(why string) string {
	const host = ", by a host"
	for len(why) > 2*len(host) && why[len(why)-2*len(host):] == host+host {
		why = why[:len(why)-len(host)]
	}
	return why
}

func TestShadeAsTheModelHasIt(t *testing.T) {
	counts := map[string]int{}
	for round := range 300 {
		c := rand.New(rand.NewPCG(8, uint64(round)))
		f := arena.New()
		for range 1 + c.IntN(20) {
			growByChance(t, f, c)
		}
		expectAsModel(t, f, counts)
	}
	expectCounts(t, counts, 300)
}

func TestTheGreatestForestsAsTheModelHasThem(t *testing.T) {
	counts := map[string]int{}
	for round := range 4 {
		c := rand.New(rand.NewPCG(88, uint64(round)))
		f := arena.New()
		for f.Len() < api.MaxNodes {
			growByChance(t, f, c)
		}
		expectAsModel(t, f, counts)
		for range 200 {
			attachByChance(t, f, c)
		}
	}
	expectCounts(t, counts, 40)
}

func expectAsModel(t *testing.T, f *arena.Forest, counts map[string]int) {
	t.Helper()
	before := told(f)
	m := newModel(f.All())
	for a := -1; a <= f.Len()+1; a++ {
		expectWhole(t, f, a, m.whole(a))
		shut := m.closed(a)
		expectClosed(t, f, a, shut...)
		counts[fmt.Sprint("closed roots: ", min(len(shut), 3))]++
		for b := -1; b <= f.Len()+1; b++ {
			expectHolds(t, f, a, b, m.there(a) && m.there(b) && m.holds[a][b])
			why := m.hidden(a, b)
			counts[deep(why)]++
			if got := Hidden(f, a, b); got != (why[0] == 'y') {
				t.Fatalf("Hidden(%d, %d) = %v (%s) of %s", a, b, got, why, before)
			}
		}
	}
	expectUnchanged(t, f, before)
}

// expectCounts sees to it that each reason came up: else the test would say little of it.
func expectCounts(t *testing.T, counts map[string]int, least int) {
	t.Helper()
	for _, what := range []string{
		"no: not there", "no: no shadow", "no: no host", "no: held", "yes: closed",
		"no: no shadow, by a host", "no: no host, by a host", "no: held, by a host", "yes: closed, by a host",
		"closed roots: 0", "closed roots: 1", "closed roots: 2", "closed roots: 3",
	} {
		if counts[what] < least {
			t.Errorf("%s: only %d times", what, counts[what])
		}
	}
}

// growByChance adds a node and mostly puts or ties it somewhere, or attaches; what is refused is no matter to the forest.
func growByChance(t *testing.T, f *arena.Forest, c *rand.Rand) {
	t.Helper()
	nodes := []api.Node{document, element, element, element, element, element, element, opened, closed, fragment}
	id, e := f.Make(nodes[c.IntN(len(nodes))])
	if e != ok {
		t.Fatal(e)
	}
	parent := 1 + c.IntN(id)
	if newest, _ := f.Node(id - 1); newest.Kind == api.Shadow {
		// Trees in new shadow trees go deep.
		parent = id - 1
	}
	n, _ := f.Node(parent)
	f.Put(parent, slices.Insert(n.Kids, c.IntN(len(n.Kids)+1), id)...)
	if c.IntN(2) == 0 {
		f.Tie(1+c.IntN(id), id)
	}
	if c.IntN(4) > 0 {
		attach(t, f, id, 1+c.IntN(2))
	}
	attachByChance(t, f, c)
}

func attachByChance(t *testing.T, f *arena.Forest, c *rand.Rand) {
	t.Helper()
	if c.IntN(3) == 0 {
		attach(t, f, c.IntN(f.Len()+2), c.IntN(4))
	}
}

func attach(t *testing.T, f *arena.Forest, host, mode int) {
	t.Helper()
	id, e := (&model{all: f.All()}).attach(host, mode)
	expectAttach(t, f, host, mode, id, e)
}
