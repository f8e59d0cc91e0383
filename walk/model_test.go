package walk

import (
	"fmt"
	"math/rand/v2"
	"slices"
	"testing"

	"towncrier/api"
	"towncrier/arena"
	"towncrier/path"
	"towncrier/shade"
)

// A model says P16.1 another way: turns lie within one another like skins. What the last entry has is around all that the entries ahead of it have: its turn on the capturing way is the first one of all, its other one is the last one.

func modelTurns(p []api.Step, bubbles bool) []api.Turn {
	if len(p) == 0 {
		return nil
	}
	at := len(p) - 1
	in, out := api.Turn{At: at, Phase: api.Capturing, Capture: true}, api.Turn{At: at, Phase: api.Bubbling}
	own := p[at].Target != 0
	if own {
		in.Phase, out.Phase = api.AtTarget, api.AtTarget
	}
	turns := append([]api.Turn{in}, modelTurns(p[:at], bubbles)...)
	if bubbles || own {
		turns = append(turns, out)
	}
	return turns
}

// modelTargets tells the target of each place: each entry that has one says so to all places from its own on.
func modelTargets(p []api.Step) []int {
	told := make([]int, len(p))
	for at, s := range p {
		for i := at; i < len(p) && s.Target != 0; i++ {
			told[i] = s.Target
		}
	}
	return told
}

// modelShadows tells of each number whether it is a node in a shadow tree: from the Shadows on, all that is below them is gone through.
func modelShadows(all []api.Node) map[int]bool {
	in := map[int]bool{}
	var enter func(id int)
	enter = func(id int) {
		in[id] = true
		for _, kid := range all[id-1].Kids {
			enter(kid)
		}
	}
	for i, n := range all {
		if n.Kind == api.Shadow {
			enter(i + 1)
		}
	}
	return in
}

// modelClears asks the entries from the first one on: each that has a target takes back what was said ahead of it.
func modelClears(in map[int]bool, p []api.Step) (clears bool, sort string) {
	sort = "no target"
	for _, s := range p {
		if s.Target != 0 {
			clears = in[s.Target] || in[s.Related]
			sort = fmt.Sprint("target in a shadow tree: ", in[s.Target], ", related node: ", in[s.Related])
		}
	}
	return clears, sort
}

func expectAsModel(t *testing.T, p []api.Step, counts map[string]int) {
	t.Helper()
	for _, bubbles := range []bool{false, true} {
		want := modelTurns(p, bubbles)
		if got := Turns(p, bubbles); !slices.Equal(got, want) {
			t.Fatalf("Turns(%+v, %v) = %s\nnot %s", p, bubbles, text(got), text(want))
		}
		if got := gather(Each(p, bubbles), -1); !slices.Equal(got, want) {
			t.Fatalf("Each(%+v, %v) = %s\nnot %s", p, bubbles, text(got), text(want))
		}
		for _, turn := range want {
			counts[text([]api.Turn{{Phase: turn.Phase, Capture: turn.Capture}})]++
		}
	}
	told := modelTargets(p)
	for at, want := range told {
		expectTarget(t, p, at, want)
		counts[fmt.Sprint("a target told: ", want != 0, ", its own: ", p[at].Target != 0)]++
	}
	for i := range 3 {
		expectTarget(t, p, -1-i, 0)
		expectTarget(t, p, len(p)+i, 0)
	}
}

// expectCounts sees to it that each sort came up, and no other one: else the test would say little of it.
func expectCounts(t *testing.T, counts map[string]int, least int, sorts ...string) {
	t.Helper()
	for _, sort := range sorts {
		if counts[sort] < least {
			t.Errorf("%s: only %d times", sort, counts[sort])
		}
	}
	if len(counts) != len(sorts) {
		t.Errorf("there are %d sorts, not %d: %v", len(counts), len(sorts), counts)
	}
}

// ofTurns are the sorts that expectAsModel counts.
var ofTurns = []string{"0C", "0T", "0t", "0b", "a target told: false, its own: false", "a target told: true, its own: false", "a target told: true, its own: true"}

// ofClears are the sorts that modelClears tells.
var ofClears = []string{
	"no target",
	"target in a shadow tree: false, related node: false", "target in a shadow tree: false, related node: true",
	"target in a shadow tree: true, related node: false", "target in a shadow tree: true, related node: true",
}

// All paths of up to ten entries with and without targets, and of up to five with two targets among them.
func TestAllShortPaths(t *testing.T) {
	counts := map[string]int{}
	for size := range 11 {
		for set := range 1 << size {
			p := make([]api.Step, size)
			for i := range p {
				p[i].Target = (i + 1) * (set >> i & 1)
			}
			expectAsModel(t, p, counts)
		}
	}
	for size, sets := 0, 1; size < 6; size, sets = size+1, sets*3 {
		for set := range sets {
			p := make([]api.Step, size)
			for i, left := 0, set; i < size; i, left = i+1, left/3 {
				p[i].Target = []int{0, 4, -4}[left%3]
			}
			expectAsModel(t, p, counts)
		}
	}
	expectCounts(t, counts, 1000, ofTurns...)
}

func TestPathsByChance(t *testing.T) {
	counts := map[string]int{}
	for round := range 3000 {
		c := rand.New(rand.NewPCG(16, uint64(round)))
		p := pathByChance(c, c.IntN(40), c.IntN(30)-3)
		before := slices.Clone(p)
		expectAsModel(t, p, counts)
		all := Turns(p, true)
		most := c.IntN(len(all) + 2)
		if got := gather(Each(p, true), most); !slices.Equal(got, all[:min(most, len(all))]) {
			t.Fatalf("the first %d turns of %+v are %s", most, p, text(got))
		}
		if !slices.Equal(p, before) {
			t.Fatalf("asking made %+v of %+v", p, before)
		}
	}
	expectCounts(t, counts, 1000, ofTurns...)
}

// pathByChance gives a path with numbers up to that one, and some odd ones.
func pathByChance(c *rand.Rand, size, most int) []api.Step {
	often := 1 + c.IntN(5)
	id := func() int {
		if c.IntN(12) == 0 {
			return strays[c.IntN(len(strays))]
		}
		return c.IntN(max(1, most) + 2)
	}
	p := make([]api.Step, size)
	for i := range p {
		p[i] = api.Step{Node: id(), Related: id(), ClosedRoot: c.IntN(2) == 0, ClosedSlot: c.IntN(2) == 0}
		if c.IntN(often) == 0 {
			p[i].Target = id()
		}
	}
	return p
}

// P16.2

// All pairs of numbers, in forests of four nodes, of which the last three are put to, or tied to, each one in all ways.
func TestClearsOfAllSmallForests(t *testing.T) {
	counts := map[string]int{}
	kinds := []api.Node{document, element, fragment, opened, closed}
	for set := range 5 * 5 * 5 {
		for ways := range 4 * 4 * 4 {
			f := grow(t, element, kinds[set%5], kinds[set/5%5], kinds[set/25])
			for i := range 3 {
				// What may not be put stays where it is; of several hosts the first one is.
				parent := 1 + ways>>(2*i)&3
				n, _ := f.Node(parent)
				f.Put(parent, append(n.Kids, i+2)...)
				f.Tie(parent, i+2)
			}
			in := modelShadows(f.All())
			for target := range 6 {
				for related := range 6 {
					p := []api.Step{{Node: 1, Target: 2}, {Node: 2, Target: target, Related: related}, {Node: 3, Related: 4}}
					want, sort := modelClears(in, p)
					expectClears(t, f, p, want)
					counts[sort]++
				}
			}
		}
	}
	// The first entry always has a target.
	expectCounts(t, counts, 1000, ofClears[1:]...)
}

func TestClearsOfForestsByChance(t *testing.T) {
	odd, made := map[string]int{}, map[string]int{}
	turns := map[string]int{}
	for round := range 1500 {
		c := rand.New(rand.NewPCG(1616, uint64(round)))
		f := arena.New()
		for range 1 + c.IntN(24) {
			growByChance(t, f, c)
		}
		before := fmt.Sprintf("%+v", f.All())
		in := modelShadows(f.All())
		for range 20 {
			p := pathByChance(c, c.IntN(8), f.Len())
			want, sort := modelClears(in, p)
			expectClears(t, f, p, want)
			odd[sort]++
		}
		for target := range f.Len() + 2 {
			related, composed := c.IntN(f.Len()+2), c.IntN(2) == 0
			p := path.Make(f, target, related, composed)
			want, sort := modelClears(in, p)
			expectClears(t, f, p, want)
			expectAsModel(t, p, turns)
			expectOfAForest(t, f, p)
			made[sort]++
		}
		if fmt.Sprintf("%+v", f.All()) != before {
			t.Fatal("asking changed the forest")
		}
	}
	expectCounts(t, odd, 500, ofClears...)
	expectCounts(t, made, 50, ofClears...)
	// The first entry of a forest's path has a target.
	expectCounts(t, turns, 1000, slices.DeleteFunc(slices.Clone(ofTurns), func(sort string) bool { return sort == "a target told: false, its own: false" })...)
}

// expectOfAForest looks at what holds for a forest's paths alone: all turns of one entry tell one target, which doesn't lie in a tree that doesn't hold the entry's node.
func expectOfAForest(t *testing.T, f *arena.Forest, p []api.Step) {
	t.Helper()
	for turn := range Each(p, true) {
		told, current := Target(p, turn.At), p[turn.At].Node
		if told == 0 || shade.Hidden(f, told, current) {
			t.Fatalf("at %d of %+v the target %d is told", turn.At, p, told)
		}
		if turn.Phase == api.AtTarget && told != current {
			t.Fatalf("at %d of %+v the target %d is told at target", turn.At, p, told)
		}
	}
}

// growByChance adds a node and mostly puts it, and attaches or ties, somewhere; what is refused is no matter to the forest.
func growByChance(t *testing.T, f *arena.Forest, c *rand.Rand) {
	t.Helper()
	nodes := []api.Node{document, fragment, opened, closed, element, element, element, slotted, slotted, {Kind: api.Element, Want: "no"}}
	id, e := f.Make(nodes[c.IntN(len(nodes))])
	if e != ok {
		t.Fatal(e)
	}
	parent := 1 + c.IntN(f.Len())
	if c.IntN(2) == 0 {
		// What is put far behind goes deep.
		parent = max(1, id-1-c.IntN(4))
	}
	n, _ := f.Node(parent)
	f.Put(parent, slices.Insert(n.Kids, c.IntN(len(n.Kids)+1), id)...)
	for range 4 {
		f.Tie(1+c.IntN(id), id)
	}
	if f.Len() < api.MaxNodes && c.IntN(3) == 0 {
		// Of a node that is no element, or has a root, it is refused.
		shade.Attach(f, id, 1+min(1, c.IntN(3)))
	}
}
