package aim

import (
	"fmt"
	"math"
	"slices"
	"testing"

	"towncrier/api"
	"towncrier/arena"
	"towncrier/shade"
)

var (
	document = api.Node{Kind: api.Document}
	element  = api.Node{Kind: api.Element}
	opened   = api.Node{Kind: api.Shadow, Mode: api.Open}
	closed   = api.Node{Kind: api.Shadow, Mode: api.Closed}
	fragment = api.Node{Kind: api.Fragment}
)

const ok = api.OK

// strays are numbers of which no forest has a node.
var strays = []int{0, -1, -2, -128, 129, 1 << 31, 1 << 32, 1<<32 + 1, math.MaxInt, math.MinInt, math.MinInt + 1}

// house gives the forest that most tests look at:
//
//	9 (20 (3, 14 (5)))
//	    17 (7, 2 (11)), the open shadow tree of 3
//	        1 (16, 22), the closed shadow tree of 2
//	            12 (4), the open shadow tree of 22
//	    6 (21), the closed shadow tree of 14
//	        19 (8), the open shadow tree of 21
//	            10 (13), the closed shadow tree of 8
//	15 (18), a closed shadow tree without a host
//	    23 (24), the open shadow tree of 18
//	25 (26)
//	    27 (28 (29)), the closed shadow tree of 26
//	30 (31), an open shadow tree without a host
//	    32, the closed shadow root of 31
//	33
//	34
//	35, a closed shadow root without a host
//
// 9 and 34 are documents, 25 and 28 are fragments, the others are elements. The numbers don't tell who is above whom.
func house(t *testing.T) *arena.Forest {
	t.Helper()
	f := grow(t,
		closed, element, element, element, element, closed, element, element, document, closed,
		element, opened, element, element, closed, element, opened, element, opened, element,
		element, element, opened, element, fragment, element, closed, fragment, element, opened,
		element, closed, element, document, closed)
	put(t, f, 9, 20)
	put(t, f, 20, 3, 14)
	put(t, f, 14, 5)
	put(t, f, 17, 7, 2)
	put(t, f, 2, 11)
	put(t, f, 1, 16, 22)
	put(t, f, 12, 4)
	put(t, f, 6, 21)
	put(t, f, 19, 8)
	put(t, f, 10, 13)
	put(t, f, 15, 18)
	put(t, f, 23, 24)
	put(t, f, 25, 26)
	put(t, f, 27, 28)
	put(t, f, 28, 29)
	put(t, f, 30, 31)
	for _, pair := range [][2]int{{3, 17}, {2, 1}, {22, 12}, {14, 6}, {21, 19}, {8, 10}, {18, 23}, {26, 27}, {31, 32}} {
		tie(t, f, pair[0], pair[1])
	}
	return f
}

func TestTheChaptersExample(t *testing.T) {
	for _, root := range []api.Node{opened, closed} {
		f := grow(t, element, element, root, element)
		put(t, f, 1, 2)
		tie(t, f, 2, 3)
		put(t, f, 3, 4)
		expectAim(t, f, 4, 1, 2)
	}
}

// P10.1: Aim

func TestAim(t *testing.T) {
	f := house(t)
	before := told(f)
	for _, x := range []struct {
		what       string
		a, b, want int
	}{
		{"a root that is no shadow, at its tree", 9, 5, 9},
		{"in a tree without a shadow root, at a node of it", 5, 3, 5},
		{"in a tree without a shadow root, at another tree", 5, 33, 5},
		{"in a tree without a shadow root, into a closed one", 5, 21, 5},
		{"in a tree without a shadow root, into a tree of a root without a host", 5, 18, 5},
		{"in a tree without a shadow root, at a host", 20, 14, 20},
		{"a host, at a node of its open tree", 3, 7, 3},
		{"a host, at a node of its closed tree", 14, 21, 14},
		{"a host, at its shadow root", 14, 6, 14},
		{"a host, at its child", 14, 5, 14},
		{"an element alone, at itself", 33, 33, 33},
		{"a document, at itself", 9, 9, 9},
		{"a fragment that is a root, at a shadow tree in its own", 25, 29, 25},

		{"in an open tree, at its host", 7, 3, 3},
		{"in an open tree, at its host's parent", 7, 20, 3},
		{"in an open tree, at the document", 11, 9, 3},
		{"in an open tree, at a node beside its host", 7, 14, 3},
		{"in an open tree, at another tree", 7, 33, 3},
		{"in an open tree, at its root", 7, 17, 7},
		{"in an open tree, at a node of it", 7, 11, 7},
		{"in an open tree, at a node above it", 11, 2, 11},
		{"in an open tree, at a node below it", 2, 11, 2},
		{"in an open tree, at itself", 7, 7, 7},
		{"in an open tree, at a root within it", 7, 1, 7},
		{"in an open tree, at a node in a tree within it", 7, 16, 7},
		{"in an open tree, at a node in a tree two within it", 7, 4, 7},
		{"in an open tree, at one beside it", 7, 21, 3},

		{"in a closed tree, at its host", 21, 14, 14},
		{"in a closed tree, at its host's parent", 21, 20, 14},
		{"in a closed tree, at the document", 21, 9, 14},
		{"in a closed tree, at the host's child", 21, 5, 14},
		{"in a closed tree, at a node beside its host", 21, 3, 14},
		{"in a closed tree, at another tree", 21, 33, 14},
		{"in a closed tree, at its root", 21, 6, 21},
		{"in a closed tree, at a node of it", 16, 22, 16},
		{"in a closed tree, at itself", 16, 16, 16},
		{"in a closed tree, at a root within it", 16, 12, 16},
		{"in a closed tree, at a node in a tree within it", 16, 4, 16},
		{"in a closed tree, at one beside it", 21, 7, 14},
		{"in a fragment in a closed tree, at its host", 29, 26, 26},
		{"in a fragment in a closed tree, at its root", 29, 27, 29},
		{"a fragment in a closed tree, at the host's root", 28, 25, 26},

		{"three trees deep, at a node of the innermost", 13, 13, 13},
		{"three trees deep, at the innermost root", 13, 10, 13},
		{"three trees deep, at the innermost host", 13, 8, 8},
		{"three trees deep, at the middle root", 13, 19, 8},
		{"three trees deep, at the middle host", 13, 21, 21},
		{"three trees deep, at the outer root", 13, 6, 21},
		{"three trees deep, at the outer host", 13, 14, 14},
		{"three trees deep, at the outer host's child", 13, 5, 14},
		{"three trees deep, at the document", 13, 9, 14},
		{"three trees deep, at another tree", 13, 34, 14},
		{"three trees deep, at three trees deep beside it", 13, 4, 14},
		{"three trees deep beside it, at three trees deep", 4, 13, 3},
		{"open, closed, open: at the innermost root", 4, 12, 4},
		{"open, closed, open: at a node beside the innermost host", 4, 16, 22},
		{"open, closed, open: at the middle host's child", 4, 11, 2},
		{"open, closed, open: at a node beside the middle host", 4, 7, 2},
		{"open, closed, open: at the outer root", 4, 17, 2},
		{"open, closed, open: at the outer host's parent", 4, 20, 3},

		{"an open root, at itself", 17, 17, 17},
		{"an open root, at its child", 17, 7, 17},
		{"an open root, at a tree within its own", 17, 4, 17},
		{"an open root, at its host", 17, 3, 3},
		{"an open root, at the document", 17, 9, 3},
		{"an open root, at another tree", 17, 33, 3},
		{"a closed root, at itself", 6, 6, 6},
		{"a closed root, at its child", 6, 21, 6},
		{"a closed root, at a tree within its own", 6, 13, 6},
		{"a closed root, at its host", 6, 14, 14},
		{"a closed root, at the document", 6, 9, 14},
		{"a root beside, at a root", 17, 6, 3},
		{"an inner root, at the root around it", 10, 19, 8},
		{"an inner root, at the outer root", 10, 6, 21},
		{"an inner root, at the outer host", 10, 14, 14},

		{"a closed root without a host, at itself", 35, 35, 35},
		{"a closed root without a host, at another tree", 35, 33, 35},
		{"in a closed tree without a host, at its root", 18, 15, 18},
		{"in a closed tree without a host, at another tree", 18, 33, 18},
		{"in a closed tree without a host, at another one without", 18, 31, 18},
		{"a closed root without a host, at another tree's node", 15, 5, 15},
		{"within a tree without a host, at that tree", 24, 15, 18},
		{"within a tree without a host, at its host", 24, 18, 18},
		{"within a tree without a host, at another tree", 24, 33, 18},
		{"within a tree without a host, into another tree", 24, 13, 18},
		{"within a tree without a host, at its root", 24, 23, 24},
		{"a closed root in an open tree without a host, at that tree", 32, 30, 31},
		{"a closed root in an open tree without a host, at another tree", 32, 34, 31},
		{"in an open tree without a host, at another tree", 31, 34, 31},
	} {
		t.Run(x.what, func(t *testing.T) { expectAim(t, f, x.a, x.b, x.want) })
	}
	expectUnchanged(t, f, before)
}

// A room is what a root with a host holds, in its own tree and in those within.
type room struct {
	host  int
	holds []int
}

// rooms are those of the house, each ahead of the ones around it.
var rooms = []room{
	{22, []int{12, 4}},
	{2, []int{1, 16, 22, 12, 4}},
	{3, []int{17, 7, 2, 11, 1, 16, 22, 12, 4}},
	{8, []int{10, 13}},
	{21, []int{19, 8, 10, 13}},
	{14, []int{6, 21, 19, 8, 10, 13}},
	{18, []int{23, 24}},
	{26, []int{27, 28, 29}},
	{31, []int{32}},
}

// leave gives the host of the outermost room that a is in and b isn't; a, if there is none.
func leave(a, b int) int {
	for _, r := range slices.Backward(rooms) {
		if slices.Contains(r.holds, a) && !slices.Contains(r.holds, b) && !slices.ContainsFunc(rooms, func(o room) bool {
			return slices.Contains(o.holds, r.host) && !slices.Contains(o.holds, b)
		}) {
			return r.host
		}
	}
	return a
}

func TestAimOfAllPairs(t *testing.T) {
	f := house(t)
	before := told(f)
	for a := 1; a <= f.Len(); a++ {
		for b := -2; b <= f.Len()+3; b++ {
			expectAim(t, f, a, b, leave(a, b))
		}
	}
	expectUnchanged(t, f, before)
}

func TestAimAtItself(t *testing.T) {
	f := house(t)
	for id := 1; id <= f.Len(); id++ {
		expectAim(t, f, id, id, id)
	}
}

func TestAimAtWhatIsNotThere(t *testing.T) {
	f := house(t)
	before := told(f)
	// All hosts are left behind, however deep it goes; where the outermost root has none, that tree isn't.
	out := map[int]int{
		17: 3, 7: 3, 2: 3, 11: 3, 1: 3, 16: 3, 22: 3, 12: 3, 4: 3,
		6: 14, 21: 14, 19: 14, 8: 14, 10: 14, 13: 14,
		23: 18, 24: 18, 27: 26, 28: 26, 29: 26, 32: 31,
	}
	for _, b := range append([]int{f.Len() + 1, 128}, strays...) {
		for a := 1; a <= f.Len(); a++ {
			want, moves := out[a]
			if !moves {
				want = a
			}
			expectAim(t, f, a, b, want)
		}
	}
	expectUnchanged(t, f, before)
}

func TestAimOfWhatIsNotThere(t *testing.T) {
	f := house(t)
	before := told(f)
	beside := append([]int{f.Len() + 1, 128}, strays...)
	for _, a := range beside {
		for b := 1; b <= f.Len(); b++ {
			expectAim(t, f, a, b, 0)
		}
		for _, b := range beside {
			expectAim(t, f, a, b, 0)
		}
	}
	expectUnchanged(t, f, before)
}

func TestAimGoesWithTheForest(t *testing.T) {
	for _, root := range []api.Node{opened, closed} {
		f := grow(t, document, element, root, element, element)
		put(t, f, 1, 2)
		put(t, f, 3, 4)
		// Without a host there is nothing to be told instead.
		expectAim(t, f, 4, 1, 4)
		expectAim(t, f, 3, 1, 3)
		tie(t, f, 2, 3)
		expectAim(t, f, 4, 1, 2)
		expectAim(t, f, 3, 1, 2)
		expectAim(t, f, 4, 5, 2)
		// What comes into the tree sees what is in it.
		put(t, f, 4, 5)
		expectAim(t, f, 4, 5, 4)
		expectAim(t, f, 5, 1, 2)
		expectAim(t, f, 5, 6, 2)
		// What is taken from it is in no shadow tree.
		put(t, f, 3)
		expectAim(t, f, 4, 1, 4)
		expectAim(t, f, 5, 1, 5)
		expectAim(t, f, 3, 5, 2)
		// The host may be taken from its parent, and stays the host.
		put(t, f, 3, 4)
		put(t, f, 1)
		expectAim(t, f, 4, 1, 2)
		expectAim(t, f, 4, 2, 2)
	}
}

// A slot's nodes are shown within the shadow tree, and don't lie in it.
func TestAimOfWhatIsShownInASlot(t *testing.T) {
	f := grow(t, document, element, closed, api.Node{Kind: api.Element, Slot: true}, element)
	put(t, f, 1, 2)
	put(t, f, 2, 5)
	tie(t, f, 2, 3)
	put(t, f, 3, 4)
	expectAim(t, f, 5, 4, 5)
	expectAim(t, f, 4, 5, 2)
}

// P10.1: Both

func TestBoth(t *testing.T) {
	f := house(t)
	before := told(f)
	for _, x := range []struct {
		what         string
		a, b         int
		wantA, wantB int
	}{
		{"no shadow tree", 5, 3, 5, 3},
		{"two trees", 5, 33, 5, 33},
		{"the first in a shadow tree", 21, 9, 14, 9},
		{"the second in a shadow tree", 9, 21, 9, 14},
		{"the first in a tree, the second its host", 7, 3, 3, 3},
		{"the first a host, the second in its tree", 3, 7, 3, 3},
		{"one shadow tree", 16, 22, 16, 22},
		{"two shadow trees side by side", 7, 21, 3, 14},
		{"two shadow trees side by side, the other way", 21, 7, 14, 3},
		{"both three trees deep, side by side", 4, 13, 3, 14},
		{"both three trees deep, the other way", 13, 4, 14, 3},
		{"the second in a tree within the first one's", 16, 4, 16, 22},
		{"the first in a tree within the second one's", 4, 16, 22, 16},
		{"the second two trees further in", 7, 4, 7, 2},
		{"the first two trees further in", 4, 7, 2, 7},
		{"the second a root in the first one's tree", 21, 10, 21, 21},
		{"a root and its child", 6, 21, 6, 21},
		{"two roots", 17, 6, 3, 14},
		{"a root without a host", 18, 13, 18, 14},
		{"within a tree without a host", 24, 32, 18, 31},
		{"equal, in no shadow tree", 5, 5, 5, 5},
		{"equal, in a closed tree", 13, 13, 13, 13},
		{"equal, a closed root", 10, 10, 10, 10},
		{"equal, a root without a host", 35, 35, 35, 35},
		{"the second isn't there", 13, 36, 14, 0},
		{"the first isn't there", 36, 13, 0, 14},
		{"the second isn't there, the first in no shadow tree", 5, -1, 5, 0},
		{"the first isn't there, the second in no shadow tree", 0, 5, 0, 5},
		{"neither is there", 36, 37, 0, 0},
		{"neither is there, equal", 36, 36, 0, 0},
	} {
		t.Run(x.what, func(t *testing.T) { expectBoth(t, f, x.a, x.b, x.wantA, x.wantB) })
	}
	expectUnchanged(t, f, before)
}

func TestBothOfAllPairs(t *testing.T) {
	f := house(t)
	before := told(f)
	for a := 1; a <= f.Len(); a++ {
		for b := 1; b <= f.Len(); b++ {
			expectBoth(t, f, a, b, leave(a, b), leave(b, a))
		}
		for _, stray := range append([]int{f.Len() + 1, 128}, strays...) {
			expectBoth(t, f, a, stray, leave(a, stray), 0)
			expectBoth(t, f, stray, a, 0, leave(a, stray))
			expectBoth(t, f, stray, f.Len()+2, 0, 0)
		}
	}
	expectUnchanged(t, f, before)
}

// P10.2

func TestWhatIsToldIsNotHiddenAndStays(t *testing.T) {
	f := house(t)
	before := told(f)
	moved := 0
	for a := 1; a <= f.Len(); a++ {
		for b := 1; b <= f.Len(); b++ {
			expectPlain(t, f, a, b)
			if Aim(f, a, b) != a {
				moved++
			}
		}
		for _, b := range append([]int{f.Len() + 1, 128}, strays...) {
			expectPlain(t, f, a, b)
		}
	}
	if moved < 300 {
		t.Errorf("only %d times another node was told", moved)
	}
	expectUnchanged(t, f, before)
}

// The greatest forests

func TestAsManyShadowTreesAsCanBe(t *testing.T) {
	// The element id is the host of the root 64 + id, that is the parent of the element id + 1.
	const half = api.MaxNodes / 2
	f := grow(t, slices.Repeat([]api.Node{element}, half)...)
	for id := 1; id <= half; id++ {
		attach(t, f, id, 1+id%3%2)
		if id < half {
			put(t, f, half+id, id+1)
		}
	}
	before := told(f)
	// tree tells in which tree a node lies: 0 is the outermost.
	tree := func(id int) int {
		if id > half {
			return id - half
		}
		return id - 1
	}
	for a := 1; a <= api.MaxNodes; a++ {
		for b := 1; b <= api.MaxNodes; b++ {
			want := a
			if tree(a) > tree(b) {
				// Each tree but the innermost has one element besides its root.
				want = tree(b) + 1
			}
			expectAim(t, f, a, b, want)
			expectPlain(t, f, a, b)
		}
		expectAim(t, f, a, 129, 1)
	}
	expectUnchanged(t, f, before)
}

func TestALongTree(t *testing.T) {
	f := grow(t, append([]api.Node{closed, element}, slices.Repeat([]api.Node{element}, api.MaxNodes-2)...)...)
	tie(t, f, 2, 1)
	put(t, f, 1, 3)
	for id := 3; id < api.MaxNodes; id++ {
		put(t, f, id, id+1)
	}
	expectBoth(t, f, api.MaxNodes, 2, 2, 2)
	expectBoth(t, f, api.MaxNodes, 1, api.MaxNodes, 1)
	expectBoth(t, f, 3, api.MaxNodes, 3, api.MaxNodes)
	expectBoth(t, f, api.MaxNodes, 0, 2, 0)
}

// Nil and zero forests

func TestNilAndZeroForests(t *testing.T) {
	var zero arena.Forest
	numbers := append([]int{1, 2, 3, 128}, strays...)
	for _, f := range []*arena.Forest{nil, &zero, arena.New()} {
		for _, a := range numbers {
			for _, b := range numbers {
				expectAim(t, f, a, b, 0)
				expectBoth(t, f, a, b, 0, 0)
			}
		}
		if f.Len() != 0 {
			t.Error("asking made nodes")
		}
	}
}

func TestAZeroForestThatGotNodes(t *testing.T) {
	var f arena.Forest
	for range 2 {
		if _, e := f.Make(element); e != ok {
			t.Fatal(e)
		}
	}
	attach(t, &f, 2, api.Closed)
	put(t, &f, 3, 1)
	expectBoth(t, &f, 1, 2, 2, 2)
	expectBoth(t, &f, 1, 3, 1, 3)
}

// R6

func TestForestsAreApart(t *testing.T) {
	f, g := house(t), grow(t, element, element, closed, element)
	tie(t, g, 1, 3)
	put(t, g, 3, 4)
	expectAim(t, g, 4, 2, 1)
	expectAim(t, f, 4, 2, 2)
	put(t, g, 3)
	expectAim(t, g, 4, 2, 4)
	expectAim(t, f, 4, 2, 2)
}

func TestTheSameIsToldAgain(t *testing.T) {
	f := house(t)
	answers := func() string {
		var l []int
		for a := -1; a <= f.Len()+1; a++ {
			for b := -1; b <= f.Len()+1; b++ {
				first, second := Both(f, a, b)
				l = append(l, Aim(f, a, b), first, second)
			}
		}
		return fmt.Sprint(l)
	}
	before, first := told(f), answers()
	if answers() != first {
		t.Error("the second time something else is told")
	}
	expectUnchanged(t, f, before)
}

// grow gives a forest of these nodes.
func grow(t *testing.T, nodes ...api.Node) *arena.Forest {
	t.Helper()
	f := arena.New()
	for i, n := range nodes {
		if id, e := f.Make(n); id != i+1 || e != ok {
			t.Fatal(id, e)
		}
	}
	return f
}

func put(t *testing.T, f *arena.Forest, parent int, kids ...int) {
	t.Helper()
	if e := f.Put(parent, kids...); e != ok {
		t.Fatalf("Put(%d, %v): %v", parent, kids, e)
	}
}

func tie(t *testing.T, f *arena.Forest, host, root int) {
	t.Helper()
	if e := f.Tie(host, root); e != ok {
		t.Fatalf("Tie(%d, %d): %v", host, root, e)
	}
}

func attach(t *testing.T, f *arena.Forest, host, mode int) {
	t.Helper()
	if _, e := shade.Attach(f, host, mode); e != ok {
		t.Fatalf("Attach(%d, %d): %v", host, mode, e)
	}
}

// told gives a text of all that a forest tells.
func told(f *arena.Forest) string { return fmt.Sprintf("%+v", f.All()) }

func expectUnchanged(t *testing.T, f *arena.Forest, before string) {
	t.Helper()
	if told(f) != before {
		t.Fatal("asking changed the forest")
	}
}

func expectAim(t *testing.T, f *arena.Forest, a, b, want int) {
	t.Helper()
	if got := Aim(f, a, b); got != want {
		t.Fatalf("Aim(%d, %d) = %d, not %d", a, b, got, want)
	}
}

func expectBoth(t *testing.T, f *arena.Forest, a, b, wantA, wantB int) {
	t.Helper()
	if gotA, gotB := Both(f, a, b); gotA != wantA || gotB != wantB {
		t.Fatalf("Both(%d, %d) = %d, %d, not %d, %d", a, b, gotA, gotB, wantA, wantB)
	}
}

// expectPlain looks at P10.2: what is told of a, to b, isn't hidden from it, and stays.
func expectPlain(t *testing.T, f *arena.Forest, a, b int) {
	t.Helper()
	got := Aim(f, a, b)
	if shade.Hidden(f, got, b) {
		t.Fatalf("Aim(%d, %d) = %d, which is hidden from %d", a, b, got, b)
	}
	if again := Aim(f, got, b); again != got {
		t.Fatalf("Aim(%d, %d) = %d, and that aimed again is %d", a, b, got, again)
	}
}
