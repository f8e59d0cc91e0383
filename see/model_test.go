package see

import (
	"fmt"
	"math/rand/v2"
	"slices"
	"testing"

	"towncrier/api"
	"towncrier/arena"
	"towncrier/path"
	"towncrier/shade"
)

// A model says P15.1 another way: each entry by itself is asked whether it can be seen, and goes from its own place towards the node's. On the way closed trees are left and entered; as soon as more were left than entered, it can't. There is no limit, and the level at which the node lies doesn't come into it.

// modelFrom tells what is seen, and of which sorts the entries are.
func modelFrom(p []api.Step, node int) (seen []int, sorts []string) {
	at := -1
	for i := range p {
		if p[i].Node == node {
			at = i
		}
	}
	for i := range p {
		if at < 0 {
			continue
		}
		can := i == at || i < at && comesBehind(p[i:at]) || i > at && comesAhead(p[at+1:i+1])
		if can {
			seen = append(seen, p[i].Node)
		}
		sorts = append(sorts, sortOf(p, i, at, can))
	}
	return seen, sorts
}

// comesBehind says whether the first one of these entries can be seen from behind the last one: its own root is left on the way, its slot isn't entered.
func comesBehind(p []api.Step) bool {
	left := 0
	for i, s := range p {
		if i > 0 && s.ClosedSlot {
			left--
		}
		if s.ClosedRoot {
			left++
		}
		if left > 0 {
			return false
		}
	}
	return true
}

// comesAhead says whether the last one of these entries can be seen from ahead of the first one.
func comesAhead(p []api.Step) bool {
	turned := slices.Clone(p)
	slices.Reverse(turned)
	for i, s := range turned {
		turned[i].ClosedRoot, turned[i].ClosedSlot = s.ClosedSlot, s.ClosedRoot
	}
	return comesBehind(turned)
}

func sortOf(p []api.Step, i, at int, can bool) string {
	side := "itself"
	if i < at {
		side = "ahead"
	} else if i > at {
		side = "behind"
	}
	return fmt.Sprint(side, ", root: ", p[i].ClosedRoot, ", slot: ", p[i].ClosedSlot, ", seen: ", can)
}

// modelLevel counts roots and slots apart, by what all of the path has and what is ahead of the node's place.
func modelLevel(p []api.Step, node int) int {
	roots, slots, found := 0, 0, false
	for _, s := range p {
		if s.Node == node {
			roots, slots, found = 0, 0, true
		} else if s.ClosedSlot {
			slots++
		}
		if s.ClosedRoot {
			roots++
		}
	}
	if !found {
		return 0
	}
	return roots - slots
}

func expectAsModel(t *testing.T, p []api.Step, node int, counts map[string]int) {
	t.Helper()
	seen, sorts := modelFrom(p, node)
	expectSeen(t, p, node, list(seen))
	level := modelLevel(p, node)
	expectLevel(t, p, node, level)
	expectPart(t, p, node)
	for _, sort := range sorts {
		counts[sort]++
	}
	counts[fmt.Sprint("level above 0: ", level > 0, ", below: ", level < 0, ", there: ", len(sorts) > 0)]++
}

// expectCounts sees to it that each sort came up: else the test would say little of it.
func expectCounts(t *testing.T, counts map[string]int, least int) {
	t.Helper()
	sorts := []string{
		"level above 0: true, below: false, there: true",
		"level above 0: false, below: true, there: true",
		"level above 0: false, below: false, there: true",
		"level above 0: false, below: false, there: false",
	}
	for _, root := range []bool{false, true} {
		for _, slot := range []bool{false, true} {
			flags := fmt.Sprint(", root: ", root, ", slot: ", slot)
			sorts = append(sorts, "itself"+flags+", seen: true", "ahead"+flags+", seen: false", "behind"+flags+", seen: false")
			// The limit isn't above the level: a root that is ahead isn't seen, nor is a slot that is behind.
			if !root {
				sorts = append(sorts, "ahead"+flags+", seen: true")
			}
			if !slot {
				sorts = append(sorts, "behind"+flags+", seen: true")
			}
		}
	}
	for _, sort := range sorts {
		if counts[sort] < least {
			t.Errorf("%s: only %d times", sort, counts[sort])
		}
	}
	if len(counts) != len(sorts) {
		t.Errorf("there are %d sorts, not %d: %v", len(counts), len(sorts), counts)
	}
}

// All paths of up to six entries with nodes of their own, and of up to four with two nodes among them.
func TestAllShortPaths(t *testing.T) {
	counts := map[string]int{}
	for size := range 7 {
		for flags := range 1 << (2 * size) {
			p := make([]api.Step, size)
			for i := range p {
				p[i] = api.Step{Node: i + 1, ClosedRoot: flags>>(2*i)&1 > 0, ClosedSlot: flags>>(2*i+1)&1 > 0}
			}
			for node := range size + 2 {
				expectAsModel(t, p, node, counts)
				expectTurned(t, p, node)
			}
			if size > 4 {
				continue
			}
			for nodes := range 1 << size {
				for i := range p {
					p[i].Node = 1 + nodes>>i&1
				}
				for node := range 4 {
					expectAsModel(t, p, node, counts)
				}
			}
		}
	}
	expectCounts(t, counts, 1000)
}

// expectTurned looks at whether the path, gone through from behind with roots for slots, tells the same of a node that comes once.
func expectTurned(t *testing.T, p []api.Step, node int) {
	t.Helper()
	turned := slices.Clone(p)
	slices.Reverse(turned)
	for i, s := range turned {
		turned[i].ClosedRoot, turned[i].ClosedSlot = s.ClosedSlot, s.ClosedRoot
	}
	want := From(p, node)
	slices.Reverse(want)
	expectSeen(t, turned, node, list(want))
}

func TestPathsByChance(t *testing.T) {
	counts := map[string]int{}
	for round := range 4000 {
		c := rand.New(rand.NewPCG(15, uint64(round)))
		size, often := 1+c.IntN(40), 1+c.IntN(6)
		p := make([]api.Step, size)
		for i := range p {
			p[i] = api.Step{Node: c.IntN(size) - 2, Target: c.IntN(3), Related: c.IntN(3), ClosedRoot: c.IntN(often) == 0, ClosedSlot: c.IntN(often) == 0}
		}
		before := slices.Clone(p)
		for node := -3; node < size; node++ {
			expectAsModel(t, p, node, counts)
		}
		if !slices.Equal(p, before) {
			t.Fatalf("asking made %s of %s", text(p), text(before))
		}
	}
	expectCounts(t, counts, 1000)
}

// P15.2: forests by chance

func TestNothingThatIsSeenIsHidden(t *testing.T) {
	counts := map[string]int{}
	for round := range 1200 {
		c := rand.New(rand.NewPCG(1515, uint64(round)))
		f := arena.New()
		for range 2 + c.IntN(24) {
			growByChance(t, f, c)
		}
		before := fmt.Sprintf("%+v", f.All())
		for target := range f.Len() + 2 {
			for _, related := range []int{0, target, 1 + c.IntN(f.Len()), 1 + c.IntN(f.Len())} {
				expectForestsPath(t, f, path.Make(f, target, related, c.IntN(4) > 0), counts)
			}
		}
		if fmt.Sprintf("%+v", f.All()) != before {
			t.Fatal("asking changed the forest")
		}
	}
	expectForestCounts(t, counts, 500)
}

func TestTheGreatestForests(t *testing.T) {
	counts := map[string]int{}
	for round := range 40 {
		c := rand.New(rand.NewPCG(151515, uint64(round)))
		f := arena.New()
		for f.Len() < api.MaxNodes {
			growByChance(t, f, c)
		}
		for target := range f.Len() + 2 {
			expectForestsPath(t, f, path.Make(f, target, 0, true), counts)
		}
	}
	expectForestCounts(t, counts, 300)
}

func expectForestsPath(t *testing.T, f *arena.Forest, p []api.Step, counts map[string]int) {
	t.Helper()
	if len(p) == 0 {
		counts["empty"]++
		return
	}
	expectNotHidden(t, f, p)
	for _, s := range p {
		seen, _ := modelFrom(p, s.Node)
		if list(seen) != list(From(p, s.Node)) {
			t.Fatalf("From(%s, %d) isn't as the model has it", text(p), s.Node)
		}
		counts[fmt.Sprint("some hidden: ", len(seen) < len(p), ", level: ", min(Level(p, s.Node), 3))]++
	}
	if len(p) > 1 && slices.ContainsFunc(p, func(s api.Step) bool { return s.ClosedSlot }) {
		counts["with closed slots"]++
	}
	if !slices.ContainsFunc(p, func(s api.Step) bool { return s.ClosedSlot || s.ClosedRoot }) {
		counts["without closed trees"]++
		expectAllSeen(t, p)
	}
}

func expectForestCounts(t *testing.T, counts map[string]int, least int) {
	t.Helper()
	for _, sort := range []string{
		"with closed slots", "without closed trees",
		"some hidden: false, level: 0", "some hidden: false, level: 1",
		"some hidden: true, level: 0", "some hidden: true, level: 1", "some hidden: true, level: 2",
	} {
		if counts[sort] < least {
			t.Errorf("%s: only %d times", sort, counts[sort])
		}
	}
}

// growByChance adds a node and mostly puts it, and attaches or ties, somewhere; what is refused is no matter to the forest.
func growByChance(t *testing.T, f *arena.Forest, c *rand.Rand) {
	t.Helper()
	nodes := []api.Node{document, {Kind: api.Fragment}, opened, closed, element, element, element, slotted, slotted, {Kind: api.Element, Want: "no"}}
	id, e := f.Make(nodes[c.IntN(len(nodes))])
	if e != ok {
		t.Fatal(e)
	}
	parent := 1 + c.IntN(f.Len())
	if c.IntN(2) == 0 {
		// What is put far behind goes deep.
		parent = max(1, id-1-c.IntN(4))
	}
	n, _ := f.Node(parent)
	f.Put(parent, slices.Insert(n.Kids, c.IntN(len(n.Kids)+1), id)...)
	for range 4 {
		f.Tie(1+c.IntN(id), id)
	}
	if f.Len() < api.MaxNodes && c.IntN(3) == 0 {
		// Of a node that is no element, or has a root, it is refused.
		shade.Attach(f, id, 1+min(1, c.IntN(3)))
	}
}
