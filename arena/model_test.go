package arena

import (
	"fmt"
	"math/rand/v2"
	"slices"
	"testing"

	"towncrier/api"
)

// A model says P4.2 and P4.3 the other way round: it keeps lists of children and pairs of hosts and roots alone, and searches them for the rest.
type model struct {
	nodes []api.Node
	kids  map[int][]int
	root  map[int]int
}

func newModel() *model { return &model{kids: map[int][]int{}, root: map[int]int{}} }

func (m *model) make(n api.Node) (int, api.Errno) {
	if e := makeError(n); e != api.OK {
		return 0, e
	}
	if len(m.nodes) == 128 {
		return 0, api.ErrFull
	}
	n.Parent, n.Host, n.Shadow, n.Kids = 0, 0, 0, nil
	m.nodes = append(m.nodes, n)
	return len(m.nodes), api.OK
}

func (m *model) there(id int) bool { return id > 0 && id <= len(m.nodes) }

func (m *model) kind(id int) int { return m.nodes[id-1].Kind }

func (m *model) parent(id int) int {
	for parent, kids := range m.kids {
		if slices.Contains(kids, id) {
			return parent
		}
	}
	return 0
}

func (m *model) host(id int) int {
	for host, root := range m.root {
		if root == id {
			return host
		}
	}
	return 0
}

// above tells all nodes above id.
func (m *model) above(id int) []int {
	next := m.parent(id)
	if next == 0 {
		next = m.host(id)
	}
	if next == 0 {
		return nil
	}
	return append(m.above(next), next)
}

func (m *model) put(parent int, kids []int) api.Errno {
	if !m.there(parent) {
		return api.ErrArg
	}
	for i, kid := range kids {
		if !m.there(kid) || slices.Index(kids, kid) != i {
			return api.ErrArg
		}
	}
	for _, kid := range kids {
		other := m.parent(kid)
		lone := m.kind(kid) == api.Document || m.kind(kid) == api.Shadow
		if lone || kid == parent || slices.Contains(m.above(parent), kid) || other != 0 && other != parent {
			return api.ErrHierarchy
		}
	}
	m.kids[parent] = slices.Clone(kids)
	return api.OK
}

func (m *model) tie(host, root int) api.Errno {
	if !m.there(host) || !m.there(root) {
		return api.ErrArg
	}
	if m.kind(host) != api.Element || m.kind(root) != api.Shadow {
		return api.ErrKind
	}
	if m.root[host] != 0 || m.host(root) != 0 {
		return api.ErrInvalidState
	}
	if slices.Contains(m.above(host), root) {
		return api.ErrHierarchy
	}
	m.root[host] = root
	return api.OK
}

// rename does what Name does, and, of want, what Want does.
func (m *model) rename(id int, name string, want bool) api.Errno {
	if !m.there(id) || makeError(api.Node{Kind: api.Element, Want: name}) != api.OK {
		return api.ErrArg
	}
	n := &m.nodes[id-1]
	if want && n.Kind != api.Element || !want && !n.Slot {
		return api.ErrKind
	}
	if want {
		n.Want = name
	} else {
		n.Name = name
	}
	return api.OK
}

// all tells what All should.
func (m *model) all() []api.Node {
	all := slices.Clone(m.nodes)
	for i := range all {
		id := i + 1
		all[i].Parent, all[i].Host, all[i].Shadow, all[i].Kids = m.parent(id), m.host(id), m.root[id], m.kids[id]
	}
	return all
}

// A chance is a source of numbers that are the same in each run.
type chance struct{ *rand.Rand }

func (c chance) node() api.Node {
	names := []string{"", "", "", "a", "abcdefgh", "A"}
	n := api.Node{Kind: 1 + c.IntN(4), Parent: c.IntN(9), Host: c.IntN(9), Shadow: c.IntN(9), Kids: []int{1, 2}}
	if n.Kind == api.Shadow {
		n.Mode = 1 + c.IntN(2)
	}
	if n.Kind == api.Element && c.IntN(2) == 0 {
		n.Slot, n.Name, n.Want = c.IntN(2) == 0, names[c.IntN(len(names))], names[c.IntN(len(names))]
	}
	if c.IntN(10) == 0 {
		n.Kind = c.IntN(6)
	}
	return n
}

// number tells mostly the number of one of many nodes, and now and then one just beside them.
func (c chance) number(many int) int {
	if c.IntN(12) == 0 {
		return c.IntN(many+4) - 1
	}
	return 1 + c.IntN(max(many, 1))
}

// kids tells a list for Put: often one of those that parent has, changed a little.
func (c chance) kids(m *model, parent int) []int {
	var l []int
	if c.IntN(3) > 0 {
		l = slices.Clone(m.kids[parent])
		c.Shuffle(len(l), func(i, j int) { l[i], l[j] = l[j], l[i] })
		l = l[:c.IntN(len(l)+1)]
	}
	for range c.IntN(3) {
		l = append(l, c.number(len(m.nodes)))
	}
	return l
}

func TestForestsAsTheModelHasThem(t *testing.T) {
	counts := map[string]int{}
	for round := range 300 {
		c := chance{rand.New(rand.NewPCG(4, uint64(round)))}
		f, m := New(), newModel()
		most := 3 + c.IntN(12)
		if round%100 == 0 {
			most = 130
		}
		for range 4 * most {
			if c.IntN(3) > 0 && len(m.nodes) < most {
				expectSameMake(t, f, m, c.node(), counts)
			} else {
				expectSameStep(t, f, m, c, counts)
			}
		}
		for range 200 {
			expectSameStep(t, f, m, c, counts)
		}
	}
	// That the steps come to all answers is a part of the test.
	for _, s := range []string{
		"make 0", "make 1", "make 2", "make 9", "put 0", "put 1", "put 3",
		"tie 0", "tie 1", "tie 2", "tie 6", "tie 3", "name 0", "name 1", "name 2", "want 0", "want 1", "want 2",
	} {
		if counts[s] < 5 {
			t.Errorf("%s came %d times", s, counts[s])
		}
	}
}

func expectSameMake(t *testing.T, f *Forest, m *model, n api.Node, counts map[string]int) {
	t.Helper()
	wantId, want := m.make(n)
	expectMake(t, f, n, wantId, want)
	counts["make "+fmt.Sprint(int(want))]++
	expectAsModel(t, f, m, "make")
}

func expectSameStep(t *testing.T, f *Forest, m *model, c chance, counts map[string]int) {
	t.Helper()
	var e, want api.Errno
	var what string
	many := len(m.nodes)
	names := []string{"", "a", "abcdefgh", "A", "abcdefghi"}
	a, b, name := c.number(many), c.number(many), names[c.IntN(len(names))]
	switch c.IntN(10) {
	case 0:
		what, e, want = "name", f.Name(a, name), m.rename(a, name, false)
	case 1:
		what, e, want = "want", f.Want(a, name), m.rename(a, name, true)
	case 2, 3, 4:
		if many > 0 && c.IntN(2) == 0 {
			a, b = c.pick(m, api.Element), c.pick(m, api.Shadow)
		}
		what, e, want = "tie", f.Tie(a, b), m.tie(a, b)
	default:
		kids := c.kids(m, a)
		what, e, want = "put", f.Put(a, kids...), m.put(a, kids)
	}
	if e != want {
		t.Fatalf("%s: %v, not %v", what, e, want)
	}
	counts[what+" "+fmt.Sprint(int(want))]++
	expectAsModel(t, f, m, what)
}

// pick tells a node of that kind, if it finds one.
func (c chance) pick(m *model, kind int) int {
	for range 20 {
		if id := 1 + c.IntN(len(m.nodes)); m.kind(id) == kind {
			return id
		}
	}
	return 0
}

func expectAsModel(t *testing.T, f *Forest, m *model, what string) {
	t.Helper()
	if got, want := told(f), fmt.Sprintf("%+v", m.all()); got != want || f.Len() != len(m.nodes) {
		t.Fatalf("behind %s:\n%s\nand not\n%s", what, got, want)
	}
	expectForest(t, f)
}

// expectForest looks whether what a forest tells is one: lists and parents, hosts and roots fit, and nothing is above itself.
func expectForest(t *testing.T, f *Forest) {
	t.Helper()
	all := f.All()
	in := map[int]int{}
	for i, n := range all {
		for _, kid := range n.Kids {
			if in[kid] != 0 {
				t.Fatalf("%d is a child of %d and of %d", kid, in[kid], i+1)
			}
			in[kid] = i + 1
		}
	}
	for i, n := range all {
		if n.Parent != in[i+1] {
			t.Fatalf("%d has the parent %d, and stands in the list of %d", i+1, n.Parent, in[i+1])
		}
		if (n.Kind == api.Document || n.Kind == api.Shadow) && n.Parent != 0 {
			t.Fatalf("%d, of the kind %d, has a parent", i+1, n.Kind)
		}
		if n.Shadow != 0 && (n.Kind != api.Element || all[n.Shadow-1].Kind != api.Shadow || all[n.Shadow-1].Host != i+1) {
			t.Fatalf("%d and its shadow root %d don't fit", i+1, n.Shadow)
		}
		if n.Host != 0 && (n.Kind != api.Shadow || all[n.Host-1].Shadow != i+1) {
			t.Fatalf("%d and its host %d don't fit", i+1, n.Host)
		}
		expectEndAbove(t, all, i+1)
	}
}

func expectEndAbove(t *testing.T, all []api.Node, id int) {
	t.Helper()
	at := id
	for range len(all) {
		next := all[at-1].Parent
		if next == 0 {
			next = all[at-1].Host
		}
		if next == 0 {
			return
		}
		at = next
	}
	t.Fatalf("the way above %d has no end", id)
}
