package kin

import (
	"fmt"
	"math/rand/v2"
	"slices"
	"testing"

	"towncrier/api"
	"towncrier/arena"
)

// A model says P5.1 and P5.2 the other way round: of each node it keeps the way down to it from its root, as nodes and as places, and the rest is told by holding these ways against each other.
type model struct {
	kinds  []int
	nodes  [][]int
	places [][]int
}

func newModel(all []api.Node) *model {
	m := &model{kinds: make([]int, len(all)), nodes: make([][]int, len(all)), places: make([][]int, len(all))}
	for i, n := range all {
		m.kinds[i] = n.Kind
		m.nodes[i], m.places[i] = wayDown(all, i+1)
	}
	return m
}

// wayDown searches the lists of children alone: what a node says of its parent isn't read.
func wayDown(all []api.Node, id int) (nodes, places []int) {
	for i, n := range all {
		if place := slices.Index(n.Kids, id); place >= 0 {
			nodes, places = wayDown(all, i+1)
			return append(nodes, id), append(places, place)
		}
	}
	return []int{id}, nil
}

func (m *model) there(id int) bool { return id >= 1 && id <= len(m.nodes) }

func (m *model) root(id int) int {
	if !m.there(id) {
		return 0
	}
	return m.nodes[id-1][0]
}

func (m *model) up(id int) []int {
	if !m.there(id) {
		return nil
	}
	up := slices.Clone(m.nodes[id-1])
	slices.Reverse(up)
	return up
}

func (m *model) above(a, b int) bool {
	if !m.there(a) || !m.there(b) {
		return false
	}
	way := m.nodes[a-1]
	return len(way) <= len(m.nodes[b-1]) && slices.Equal(way, m.nodes[b-1][:len(way)])
}

func (m *model) order(id int) []int {
	var l []int
	for other := 1; other <= len(m.nodes); other++ {
		if m.above(id, other) {
			l = append(l, other)
		}
	}
	slices.SortFunc(l, func(a, b int) int { return slices.Compare(m.places[a-1], m.places[b-1]) })
	return l
}

func (m *model) index(id int) int {
	if !m.there(id) || len(m.places[id-1]) == 0 {
		return -1
	}
	return m.places[id-1][len(m.places[id-1])-1]
}

func (m *model) parent(id int) int {
	if !m.there(id) || len(m.nodes[id-1]) == 1 {
		return 0
	}
	return m.nodes[id-1][len(m.nodes[id-1])-2]
}

func (m *model) next(id int) int {
	for other := 1; other <= len(m.nodes); other++ {
		if m.parent(id) != 0 && m.parent(other) == m.parent(id) && m.index(other) == m.index(id)+1 {
			return other
		}
	}
	return 0
}

func (m *model) count(id, kind int) int {
	count := 0
	for other := 1; other <= len(m.nodes); other++ {
		if m.there(id) && m.parent(other) == id && m.kinds[other-1] == kind {
			count++
		}
	}
	return count
}

func TestKinAsTheModelHasIt(t *testing.T) {
	for round := range 200 {
		c := rand.New(rand.NewPCG(5, uint64(round)))
		most := 1 + c.IntN(14)
		if round%50 == 0 {
			most = api.MaxNodes
		}
		f := arena.New()
		for range most {
			growByChance(t, f, c)
		}
		expectAsModel(t, f)
		for range 5 {
			changeByChance(f, c)
			expectAsModel(t, f)
		}
	}
}

func growByChance(t *testing.T, f *arena.Forest, c *rand.Rand) {
	t.Helper()
	n := api.Node{Kind: []int{document, element, element, element, shadow, fragment}[c.IntN(6)]}
	if n.Kind == shadow {
		n.Mode = 1 + c.IntN(2)
	}
	id, e := f.Make(n)
	if e != api.OK {
		t.Fatal(e)
	}
	changeByChance(f, c)
	// Mostly the new node is put somewhere; where that can't be, it stays alone.
	insertByChance(f, c, 1+c.IntN(id), id)
	f.Tie(1+c.IntN(id), id)
}

// changeByChance moves nodes about; what the forest refuses is no matter here.
func changeByChance(f *arena.Forest, c *rand.Rand) {
	for range 4 {
		from, to := 1+c.IntN(f.Len()), 1+c.IntN(f.Len())
		n, _ := f.Node(from)
		c.Shuffle(len(n.Kids), func(i, j int) { n.Kids[i], n.Kids[j] = n.Kids[j], n.Kids[i] })
		if len(n.Kids) == 0 {
			continue
		}
		last := len(n.Kids) - 1
		if c.IntN(2) == 0 {
			f.Put(from, n.Kids...)
		} else if f.Put(from, n.Kids[:last]...) == api.OK {
			insertByChance(f, c, to, n.Kids[last])
		}
	}
}

func insertByChance(f *arena.Forest, c *rand.Rand, parent, id int) {
	n, _ := f.Node(parent)
	f.Put(parent, slices.Insert(n.Kids, c.IntN(len(n.Kids)+1), id)...)
}

func expectAsModel(t *testing.T, f *arena.Forest) {
	t.Helper()
	m := newModel(f.All())
	for id := -1; id <= f.Len()+2; id++ {
		expectInt(t, fmt.Sprintf("Root(%d)", id), Root(f, id), m.root(id))
		expectList(t, fmt.Sprintf("Up(%d)", id), Up(f, id), m.up(id)...)
		expectList(t, fmt.Sprintf("Order(%d)", id), Order(f, id), m.order(id)...)
		expectInt(t, fmt.Sprintf("Index(%d)", id), Index(f, id), m.index(id))
		expectInt(t, fmt.Sprintf("Next(%d)", id), Next(f, id), m.next(id))
		for other := -1; other <= f.Len()+2; other++ {
			if Above(f, id, other) != m.above(id, other) {
				t.Fatalf("Above(%d, %d) = %v", id, other, !m.above(id, other))
			}
		}
		for kind := -1; kind <= 6; kind++ {
			expectInt(t, fmt.Sprintf("Count(%d, %d)", id, kind), Count(f, id, kind), m.count(id, kind))
		}
	}
}

// TestTheModelsForestsAreDeep looks at what chance makes: without deep trees and shadow trees the test above would say little.
func TestTheModelsForestsAreDeep(t *testing.T) {
	deepest, widest, shadows := 0, 0, 0
	for round := range 40 {
		c := rand.New(rand.NewPCG(5, uint64(round*5)))
		f := arena.New()
		for range 20 {
			growByChance(t, f, c)
		}
		all := f.All()
		for i, n := range all {
			nodes, _ := wayDown(all, i+1)
			deepest, widest = max(deepest, len(nodes)), max(widest, len(n.Kids))
			if n.Host != 0 && len(n.Kids) > 0 {
				shadows++
			}
		}
	}
	if deepest < 5 || widest < 4 || shadows < 10 {
		t.Errorf("deepest %d, widest %d, shadow trees %d", deepest, widest, shadows)
	}
}
