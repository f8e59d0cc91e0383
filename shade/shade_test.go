package shade

import (
	"fmt"
	"math"
	"slices"
	"testing"

	"towncrier/api"
	"towncrier/arena"
)

var (
	document = api.Node{Kind: api.Document}
	element  = api.Node{Kind: api.Element}
	opened   = api.Node{Kind: api.Shadow, Mode: api.Open}
	closed   = api.Node{Kind: api.Shadow, Mode: api.Closed}
	fragment = api.Node{Kind: api.Fragment}
)

const (
	ok           = api.OK
	arg          = api.ErrArg
	notSupported = api.ErrNotSupported
	full         = api.ErrFull
)

// strays are numbers of which no forest has a node.
var strays = []int{0, -1, -2, -128, 129, 1 << 31, 1 << 32, 1<<32 + 1, math.MaxInt, math.MinInt, math.MinInt + 1}

// wrongModes are neither Open nor Closed.
var wrongModes = []int{0, -1, -2, 3, 4, 257, 1<<32 + 1, 1<<32 + 2, math.MaxInt, math.MinInt}

// house gives the forest that most tests look at:
//
//	9 (20 (3, 14 (5)))
//	    17 (7, 2 (11)), the open shadow tree of 3
//	        1 (16, 22), the closed shadow tree of 2
//	            12 (4), the open shadow tree of 22
//	    6 (21), the closed shadow tree of 14
//	        19 (8), the open shadow tree of 21
//	            10 (13), the closed shadow tree of 8
//	15 (18), a closed shadow tree without a host
//	    23 (24), the open shadow tree of 18
//	25 (26)
//	    27 (28 (29)), the closed shadow tree of 26
//	30 (31), an open shadow tree without a host
//	    32, the closed shadow root of 31
//	33
//	34
//	35, a closed shadow root without a host
//
// 9 and 34 are documents, 25 and 28 are fragments, the others are elements. The numbers don't tell who is above whom.
func house(t *testing.T) *arena.Forest {
	t.Helper()
	f := grow(t,
		closed, element, element, element, element, closed, element, element, document, closed,
		element, opened, element, element, closed, element, opened, element, opened, element,
		element, element, opened, element, fragment, element, closed, fragment, element, opened,
		element, closed, element, document, closed)
	put(t, f, 9, 20)
	put(t, f, 20, 3, 14)
	put(t, f, 14, 5)
	put(t, f, 17, 7, 2)
	put(t, f, 2, 11)
	put(t, f, 1, 16, 22)
	put(t, f, 12, 4)
	put(t, f, 6, 21)
	put(t, f, 19, 8)
	put(t, f, 10, 13)
	put(t, f, 15, 18)
	put(t, f, 23, 24)
	put(t, f, 25, 26)
	put(t, f, 27, 28)
	put(t, f, 28, 29)
	put(t, f, 30, 31)
	for _, pair := range [][2]int{{3, 17}, {2, 1}, {22, 12}, {14, 6}, {21, 19}, {8, 10}, {18, 23}, {26, 27}, {31, 32}} {
		tie(t, f, pair[0], pair[1])
	}
	return f
}

func TestTheChaptersExample(t *testing.T) {
	f := grow(t, element, element)
	expectAttach(t, f, 1, api.Closed, 3, ok)
	put(t, f, 3, 2)
	expectHidden(t, f, 2, 1, true)
}

// P8.1

func TestAttachToAnElement(t *testing.T) {
	for _, mode := range []int{api.Open, api.Closed} {
		f := grow(t, document, element, element, fragment, element)
		put(t, f, 1, 2)
		put(t, f, 2, 3)
		put(t, f, 4, 5)
		// In the middle, alone below, in a fragment.
		expectAttach(t, f, 2, mode, 6, ok)
		expectAttach(t, f, 3, mode, 7, ok)
		expectAttach(t, f, 5, mode, 8, ok)
		for i, host := range []int{2, 3, 5} {
			n, there := f.Node(6 + i)
			if !there || n.Kind != api.Shadow || n.Mode != mode || n.Host != host || n.Parent != 0 || n.Shadow != 0 || len(n.Kids) != 0 {
				t.Errorf("node %d is %+v", 6+i, n)
			}
			if h, _ := f.Node(host); h.Shadow != 6+i {
				t.Errorf("%d has the shadow root %d", host, h.Shadow)
			}
		}
	}
}

func TestAttachToElementsOfAllSorts(t *testing.T) {
	for _, host := range []api.Node{
		element,
		{Kind: api.Element, Slot: true},
		{Kind: api.Element, Slot: true, Name: "a", Want: "b"},
		{Kind: api.Element, Want: "b"},
	} {
		for _, mode := range []int{api.Open, api.Closed} {
			f := grow(t, host)
			expectAttach(t, f, 1, mode, 2, ok)
		}
	}
}

func TestAttachWithinShadowTrees(t *testing.T) {
	f := house(t)
	// In an open tree, in closed ones, in one of a root without a host.
	for i, host := range []int{7, 16, 4, 13, 24, 29} {
		expectAttach(t, f, host, 1+i%2, 36+i, ok)
	}
	expectHolds(t, f, 9, 36, true)
	expectHolds(t, f, 15, 40, true)
	expectWhole(t, f, 41, 25)
}

func TestAttachToWhatHasAShadowRoot(t *testing.T) {
	f := house(t)
	for _, host := range []int{3, 2, 22, 14, 21, 8, 18, 26, 31} {
		expectAttach(t, f, host, api.Open, 0, notSupported)
		expectAttach(t, f, host, api.Closed, 0, notSupported)
	}
	// Also to what has just got one, whatever its mode.
	expectAttach(t, f, 33, api.Open, 36, ok)
	expectAttach(t, f, 33, api.Open, 0, notSupported)
	expectAttach(t, f, 33, api.Closed, 0, notSupported)
	expectAttach(t, f, 5, api.Closed, 37, ok)
	expectAttach(t, f, 5, api.Open, 0, notSupported)
	expectAttach(t, f, 5, api.Closed, 0, notSupported)
}

func TestAttachToOtherKinds(t *testing.T) {
	f := house(t)
	// Documents, shadow roots with and without a host, fragments.
	for _, host := range []int{9, 34, 17, 1, 12, 15, 30, 35, 25, 28} {
		expectAttach(t, f, host, api.Open, 0, notSupported)
		expectAttach(t, f, host, api.Closed, 0, notSupported)
	}
}

func TestAttachToWhatIsNotThere(t *testing.T) {
	f := house(t)
	for _, host := range append([]int{f.Len() + 1, 128}, strays...) {
		expectAttach(t, f, host, api.Open, 0, arg)
		expectAttach(t, f, host, api.Closed, 0, arg)
		for _, mode := range wrongModes {
			expectAttach(t, f, host, mode, 0, arg)
		}
	}
	// What isn't there yet may be a host when it is.
	expectAttach(t, f, 36, api.Open, 0, arg)
	expectAttach(t, f, 33, api.Open, 36, ok)
	expectAttach(t, f, 36, api.Open, 0, notSupported)
}

func TestAttachOfWrongModes(t *testing.T) {
	f := house(t)
	for _, mode := range wrongModes {
		// The first could have a shadow root; the others couldn't, but that is looked for behind the mode.
		for _, host := range []int{33, 3, 8, 9, 34, 17, 15, 25} {
			expectAttach(t, f, host, mode, 0, arg)
		}
	}
	expectAttach(t, f, 33, api.Closed, 36, ok)
}

func TestTheLastNodeAndOneMore(t *testing.T) {
	for _, mode := range []int{api.Open, api.Closed} {
		f := grow(t, append([]api.Node{document, fragment, opened}, slices.Repeat([]api.Node{element}, api.MaxNodes-5)...)...)
		expectAttach(t, f, 4, mode, 127, ok)
		expectAttach(t, f, 5, mode, 128, ok)
		for range 2 {
			expectAttach(t, f, 6, api.Open, 0, full)
			expectAttach(t, f, 6, api.Closed, 0, full)
			expectAttach(t, f, 126, mode, 0, full)
		}
		// All other errors are looked for ahead of that.
		for _, host := range []int{1, 2, 3, 4, 5, 127, 128} {
			expectAttach(t, f, host, mode, 0, notSupported)
			expectAttach(t, f, host, 0, 0, arg)
		}
		for _, wrong := range wrongModes {
			expectAttach(t, f, 6, wrong, 0, arg)
		}
		for _, host := range strays {
			expectAttach(t, f, host, mode, 0, arg)
			expectAttach(t, f, host, 3, 0, arg)
		}
	}
}

func TestAForestThatWasMadeFull(t *testing.T) {
	f := grow(t, slices.Repeat([]api.Node{element}, api.MaxNodes)...)
	for host := 1; host <= api.MaxNodes; host++ {
		expectAttach(t, f, host, 1+host%2, 0, full)
	}
}

// P8.2: Whole

func TestWholeOfAll(t *testing.T) {
	f := house(t)
	before := told(f)
	for want, ids := range map[int][]int{
		9:  {9, 20, 3, 14, 5, 17, 7, 2, 11, 1, 16, 22, 12, 4, 6, 21, 19, 8, 10, 13},
		15: {15, 18, 23, 24},
		25: {25, 26, 27, 28, 29},
		30: {30, 31, 32},
		33: {33}, 34: {34}, 35: {35},
	} {
		for _, id := range ids {
			expectWhole(t, f, id, want)
		}
	}
	for _, id := range append([]int{f.Len() + 1, 128}, strays...) {
		expectWhole(t, f, id, 0)
	}
	expectUnchanged(t, f, before)
}

func TestWholeGoesWithTheForest(t *testing.T) {
	for _, root := range []api.Node{opened, closed} {
		f := grow(t, document, element, root, element)
		put(t, f, 3, 4)
		expectWhole(t, f, 4, 3)
		expectWhole(t, f, 3, 3)
		tie(t, f, 2, 3)
		expectWhole(t, f, 4, 2)
		expectWhole(t, f, 3, 2)
		put(t, f, 1, 2)
		expectWhole(t, f, 4, 1)
		expectWhole(t, f, 3, 1)
		put(t, f, 3)
		expectWhole(t, f, 4, 4)
		put(t, f, 1, 4)
		put(t, f, 1)
		expectWhole(t, f, 4, 4)
		expectWhole(t, f, 3, 2)
	}
}

// P8.2: Holds

func TestHoldsOfAllPairs(t *testing.T) {
	f := house(t)
	before := told(f)
	holders := map[int][]int{
		9: {9}, 20: {20, 9}, 3: {3, 20, 9}, 14: {14, 20, 9}, 5: {5, 14, 20, 9},
		17: {17, 3, 20, 9}, 7: {7, 17, 3, 20, 9}, 2: {2, 17, 3, 20, 9}, 11: {11, 2, 17, 3, 20, 9},
		1: {1, 2, 17, 3, 20, 9}, 16: {16, 1, 2, 17, 3, 20, 9}, 22: {22, 1, 2, 17, 3, 20, 9},
		12: {12, 22, 1, 2, 17, 3, 20, 9}, 4: {4, 12, 22, 1, 2, 17, 3, 20, 9},
		6: {6, 14, 20, 9}, 21: {21, 6, 14, 20, 9}, 19: {19, 21, 6, 14, 20, 9}, 8: {8, 19, 21, 6, 14, 20, 9},
		10: {10, 8, 19, 21, 6, 14, 20, 9}, 13: {13, 10, 8, 19, 21, 6, 14, 20, 9},
		15: {15}, 18: {18, 15}, 23: {23, 18, 15}, 24: {24, 23, 18, 15},
		25: {25}, 26: {26, 25}, 27: {27, 26, 25}, 28: {28, 27, 26, 25}, 29: {29, 28, 27, 26, 25},
		30: {30}, 31: {31, 30}, 32: {32, 31, 30}, 33: {33}, 34: {34}, 35: {35},
	}
	for a := -2; a <= f.Len()+3; a++ {
		for b := -2; b <= f.Len()+3; b++ {
			expectHolds(t, f, a, b, slices.Contains(holders[b], a))
		}
	}
	expectUnchanged(t, f, before)
}

// A pair is a question of two nodes, and its answer.
type pair struct {
	what string
	a, b int
	want bool
}

func TestHolds(t *testing.T) {
	f := house(t)
	for _, x := range []pair{
		{"itself, a document", 9, 9, true},
		{"itself, a leaf", 5, 5, true},
		{"itself, alone", 33, 33, true},
		{"itself, a closed shadow root", 1, 1, true},
		{"itself, in a shadow tree", 16, 16, true},
		{"a parent", 14, 5, true},
		{"a parent's parent", 20, 5, true},
		{"a child", 5, 14, false},
		{"the child beside it", 3, 14, false},
		{"a tree elsewhere", 34, 5, false},
		{"an open root, from without", 3, 17, true},
		{"a closed root, from without", 14, 6, true},
		{"into an open tree", 3, 7, true},
		{"into a closed tree", 14, 21, true},
		{"into a closed tree within an open one", 20, 4, true},
		{"a root within its tree", 1, 22, true},
		{"a root, into a tree within its tree", 1, 4, true},
		{"the host's child", 5, 21, false},
		{"the child beside the host", 3, 21, false},
		{"from within to the host", 21, 14, false},
		{"from within to the host's child", 6, 5, false},
		{"from within to the document", 13, 9, false},
		{"a root to its host", 17, 3, false},
		{"a root to a shadow tree beside it", 17, 6, false},
		{"from one shadow tree to one beside it", 7, 21, false},
		{"from an inner tree to the one around it", 12, 16, false},
		{"a root without a host, to its child", 15, 18, true},
		{"a root without a host, into a tree within its tree", 15, 24, true},
		{"a document, to a root without a host", 9, 15, false},
	} {
		t.Run(x.what, func(t *testing.T) { expectHolds(t, f, x.a, x.b, x.want) })
	}
}

// P8.2: Hidden

func TestHiddenOfAllPairs(t *testing.T) {
	f := house(t)
	before := told(f)
	// What a closed root with a host holds is hidden from all that it doesn't hold.
	rooms := [][]int{{1, 16, 22, 12, 4}, {6, 21, 19, 8, 10, 13}, {10, 13}, {27, 28, 29}, {32}}
	for a := -2; a <= f.Len()+3; a++ {
		for b := -2; b <= f.Len()+3; b++ {
			want := 1 <= b && b <= f.Len() && slices.ContainsFunc(rooms, func(room []int) bool {
				return slices.Contains(room, a) && !slices.Contains(room, b)
			})
			expectHidden(t, f, a, b, want)
		}
	}
	expectUnchanged(t, f, before)
}

func TestHidden(t *testing.T) {
	f := house(t)
	for _, x := range []pair{
		{"itself, in no shadow tree", 5, 5, false},
		{"itself, in a closed tree", 13, 13, false},
		{"itself, a closed root", 6, 6, false},
		{"in no shadow tree, from elsewhere in it", 3, 5, false},
		{"in no shadow tree, from another one", 33, 5, false},
		{"in no shadow tree, from within a closed one", 5, 13, false},
		{"an open root, from its host", 17, 3, false},
		{"in an open tree, from its host", 7, 3, false},
		{"in an open tree, from the document", 11, 9, false},
		{"in an open tree, from another tree", 7, 33, false},
		{"a closed root, from its host", 6, 14, true},
		{"in a closed tree, from its host", 21, 14, true},
		{"in a closed tree, from the host's child", 21, 5, true},
		{"in a closed tree, from the document", 21, 9, true},
		{"in a closed tree, from another tree", 21, 33, true},
		{"in a closed tree, from a shadow tree beside it", 21, 7, true},
		{"in a closed tree, from its root", 21, 6, false},
		{"in a closed tree, from elsewhere in it", 16, 22, false},
		{"in a closed tree, from a tree within it", 16, 4, false},
		{"a closed root, from its child", 1, 16, false},
		{"a closed root, from a tree within it", 6, 13, false},
		{"closed within open, from the host", 16, 2, true},
		{"closed within open, from the open tree", 16, 17, true},
		{"closed within open, from outside of both", 16, 9, true},
		{"open within closed, from the open tree's host", 4, 22, false},
		{"open within closed, from the closed tree", 4, 16, false},
		{"open within closed, from the closed tree's host", 4, 2, true},
		{"open within closed, from outside of both", 4, 9, true},
		{"an open root within closed, from outside of both", 19, 5, true},
		{"an open root within closed, from the closed root", 19, 6, false},
		{"closed within open within closed, from the middle", 13, 19, true},
		{"closed within open within closed, from the outer tree", 13, 21, true},
		{"closed within open within closed, from outside", 13, 5, true},
		{"from a closed tree, of the open one around it", 8, 13, false},
		{"of a closed root without a host, from elsewhere", 15, 33, false},
		{"in a closed tree without a host, from elsewhere", 18, 33, false},
		{"in an open tree within that, from elsewhere", 24, 33, false},
		{"in a closed tree without a host, from within", 18, 24, false},
		{"a closed root in an open tree without a host, from its host", 32, 31, true},
		{"a closed root in an open tree without a host, from elsewhere", 32, 33, true},
		{"in a fragment in a closed tree, from outside", 29, 26, true},
		{"in a fragment in a closed tree, from its root", 29, 27, false},
	} {
		t.Run(x.what, func(t *testing.T) { expectHidden(t, f, x.a, x.b, x.want) })
	}
}

func TestPairsOfWhatIsNotThere(t *testing.T) {
	f := house(t)
	before := told(f)
	beside := append([]int{f.Len() + 1, 128}, strays...)
	for _, stray := range beside {
		for there := 1; there <= f.Len(); there++ {
			expectHolds(t, f, stray, there, false)
			expectHolds(t, f, there, stray, false)
			expectHidden(t, f, stray, there, false)
			expectHidden(t, f, there, stray, false)
		}
		for _, other := range beside {
			expectHolds(t, f, stray, other, false)
			expectHidden(t, f, stray, other, false)
		}
	}
	expectUnchanged(t, f, before)
}

func TestHiddenGoesWithTheForest(t *testing.T) {
	f := grow(t, document, element, closed, element, element)
	put(t, f, 1, 2)
	put(t, f, 3, 4)
	// Without a host nothing is hidden.
	expectHidden(t, f, 4, 1, false)
	expectHidden(t, f, 3, 1, false)
	tie(t, f, 2, 3)
	expectHidden(t, f, 4, 1, true)
	expectHidden(t, f, 4, 5, true)
	put(t, f, 4, 5)
	expectHidden(t, f, 4, 5, false)
	expectHidden(t, f, 5, 1, true)
	put(t, f, 4)
	put(t, f, 3)
	expectHidden(t, f, 4, 1, false)
	expectHidden(t, f, 3, 4, true)
}

// P8.2: Closed

func TestClosedOfAll(t *testing.T) {
	f := house(t)
	before := told(f)
	want := map[int][]int{
		1: {1}, 16: {1}, 22: {1}, 12: {1}, 4: {1},
		6: {6}, 21: {6}, 19: {6}, 8: {6}, 10: {10, 6}, 13: {10, 6},
		15: {15}, 18: {15}, 23: {15}, 24: {15},
		27: {27}, 28: {27}, 29: {27}, 32: {32}, 35: {35},
	}
	for id := -2; id <= f.Len()+3; id++ {
		expectClosed(t, f, id, want[id]...)
	}
	for _, id := range strays {
		expectClosed(t, f, id)
	}
	expectUnchanged(t, f, before)
}

func TestSeveralClosedTreesOneRightInTheOther(t *testing.T) {
	// The roots' numbers go up, down and up from the outermost one to the innermost.
	f := grow(t, element, element, element, element, element, closed, closed, closed, closed)
	for i, root := range []int{7, 9, 6, 8} {
		tie(t, f, i+1, root)
		put(t, f, root, i+2)
	}
	expectClosed(t, f, 1)
	expectClosed(t, f, 2, 7)
	expectClosed(t, f, 3, 9, 7)
	expectClosed(t, f, 4, 6, 9, 7)
	expectClosed(t, f, 5, 8, 6, 9, 7)
	expectClosed(t, f, 8, 8, 6, 9, 7)
	expectClosed(t, f, 6, 6, 9, 7)
	expectClosed(t, f, 7, 7)
}

func TestOpenTreesBetweenClosedOnes(t *testing.T) {
	f := grow(t, slices.Repeat([]api.Node{element}, 8)...)
	// 9 to 15 are the roots: closed, open, open, closed, open, closed, open.
	for i, mode := range []int{2, 1, 1, 2, 1, 2, 1} {
		expectAttach(t, f, i+1, mode, i+9, ok)
		put(t, f, i+9, i+2)
	}
	for i, want := range [][]int{{}, {9}, {9}, {9}, {12, 9}, {12, 9}, {14, 12, 9}, {14, 12, 9}} {
		expectClosed(t, f, i+1, want...)
	}
	// The outermost root has no host, and counts all the same.
	g := grow(t, closed, element, closed, element, opened, element)
	put(t, g, 1, 2)
	tie(t, g, 2, 3)
	put(t, g, 3, 4)
	tie(t, g, 4, 5)
	put(t, g, 5, 6)
	expectClosed(t, g, 6, 3, 1)
	expectClosed(t, g, 4, 3, 1)
	expectClosed(t, g, 2, 1)
}

func TestWhatClosedTellsIsNewMemory(t *testing.T) {
	f := house(t)
	before := told(f)
	first, second := Closed(f, 13), Closed(f, 13)
	for i := range first {
		first[i] = -7
	}
	first = append(first[:1], 99)
	if !slices.Equal(second, []int{10, 6}) {
		t.Error("two answers share memory")
	}
	expectClosed(t, f, 13, 10, 6)
	expectUnchanged(t, f, before)
}

// The greatest forests

func TestAsManyShadowTreesAsCanBe(t *testing.T) {
	// The element id is the host of the root 64 + id, that is the parent of the element id + 1.
	const half = api.MaxNodes / 2
	f := grow(t, slices.Repeat([]api.Node{element}, half)...)
	var shut []int
	for id := 1; id <= half; id++ {
		mode := 1 + id%2
		expectAttach(t, f, id, mode, half+id, ok)
		if id < half {
			put(t, f, half+id, id+1)
		}
		if mode == api.Closed {
			shut = append([]int{half + id}, shut...)
		}
	}
	before := told(f)
	expectClosed(t, f, api.MaxNodes, shut...)
	// place tells how deep a node lies: elements and roots in turn.
	place := func(id int) int {
		if id > half {
			return 2*(id-half) + 1
		}
		return 2 * id
	}
	for a := 1; a <= api.MaxNodes; a++ {
		expectWhole(t, f, a, 1)
		for b := 1; b <= api.MaxNodes; b++ {
			expectHolds(t, f, a, b, place(a) <= place(b))
			want := slices.ContainsFunc(shut, func(root int) bool {
				return place(root) <= place(a) && place(root) > place(b)
			})
			expectHidden(t, f, a, b, want)
		}
	}
	expectUnchanged(t, f, before)
}

func TestALongTree(t *testing.T) {
	f := grow(t, append([]api.Node{closed, element}, slices.Repeat([]api.Node{element}, api.MaxNodes-2)...)...)
	tie(t, f, 2, 1)
	put(t, f, 1, 3)
	for id := 3; id < api.MaxNodes; id++ {
		put(t, f, id, id+1)
	}
	expectWhole(t, f, api.MaxNodes, 2)
	expectHolds(t, f, 2, api.MaxNodes, true)
	expectHolds(t, f, api.MaxNodes, 2, false)
	expectHidden(t, f, api.MaxNodes, 2, true)
	expectHidden(t, f, api.MaxNodes, 3, false)
	expectClosed(t, f, api.MaxNodes, 1)
}

// Nil and zero forests

func TestNilAndZeroForests(t *testing.T) {
	var zero arena.Forest
	numbers := append([]int{1, 2, 3, 128}, strays...)
	for _, f := range []*arena.Forest{nil, &zero, arena.New()} {
		for _, a := range numbers {
			expectWhole(t, f, a, 0)
			expectClosed(t, f, a)
			for _, b := range numbers {
				expectAttach(t, f, a, b, 0, arg)
				expectHolds(t, f, a, b, false)
				expectHidden(t, f, a, b, false)
			}
		}
	}
}

func TestAZeroForestThatGotNodes(t *testing.T) {
	var f arena.Forest
	for range 2 {
		if _, e := f.Make(element); e != ok {
			t.Fatal(e)
		}
	}
	expectAttach(t, &f, 2, api.Closed, 3, ok)
	put(t, &f, 3, 1)
	expectWhole(t, &f, 1, 2)
	expectHolds(t, &f, 2, 1, true)
	expectHidden(t, &f, 1, 2, true)
	expectClosed(t, &f, 1, 3)
}

// R6

func TestForestsAreApart(t *testing.T) {
	f, g := house(t), grow(t, element, element)
	expectAttach(t, g, 2, api.Open, 3, ok)
	expectAttach(t, f, 33, api.Closed, 36, ok)
	expectWhole(t, g, 3, 2)
	expectWhole(t, f, 3, 9)
	expectClosed(t, g, 1)
	expectClosed(t, f, 1, 1)
	expectAttach(t, g, 1, api.Closed, 4, ok)
	expectClosed(t, g, 4, 4)
}

func TestTheSameIsToldAgain(t *testing.T) {
	f := house(t)
	answers := func() string {
		var l []string
		for a := -1; a <= f.Len()+1; a++ {
			l = append(l, fmt.Sprint(Whole(f, a), Closed(f, a)))
			for b := -1; b <= f.Len()+1; b++ {
				l = append(l, fmt.Sprint(Holds(f, a, b), Hidden(f, a, b)))
			}
		}
		return fmt.Sprint(l)
	}
	before, first := told(f), answers()
	if answers() != first {
		t.Error("the second time something else is told")
	}
	expectUnchanged(t, f, before)
}

// grow gives a forest of these nodes.
func grow(t *testing.T, nodes ...api.Node) *arena.Forest {
	t.Helper()
	f := arena.New()
	for i, n := range nodes {
		if id, e := f.Make(n); id != i+1 || e != ok {
			t.Fatal(id, e)
		}
	}
	return f
}

func put(t *testing.T, f *arena.Forest, parent int, kids ...int) {
	t.Helper()
	if e := f.Put(parent, kids...); e != ok {
		t.Fatalf("Put(%d, %v): %v", parent, kids, e)
	}
}

func tie(t *testing.T, f *arena.Forest, host, root int) {
	t.Helper()
	if e := f.Tie(host, root); e != ok {
		t.Fatalf("Tie(%d, %d): %v", host, root, e)
	}
}

// told gives a text of all that a forest tells.
func told(f *arena.Forest) string { return fmt.Sprintf("%+v", f.All()) }

func expectUnchanged(t *testing.T, f *arena.Forest, before string) {
	t.Helper()
	if told(f) != before {
		t.Fatal("asking changed the forest")
	}
}

// expectAttach looks at the whole forest, too: the new root and its host's Shadow are all that changes, and nothing does beside an error.
func expectAttach(t *testing.T, f *arena.Forest, host, mode, wantID int, want api.Errno) {
	t.Helper()
	all := f.All()
	if want == ok {
		all[host-1].Shadow = wantID
		all = append(all, api.Node{Kind: api.Shadow, Mode: mode, Host: host})
	}
	if id, e := Attach(f, host, mode); id != wantID || e != want {
		t.Fatalf("Attach(%d, %d) = %d, %d, not %d, %d", host, mode, id, int(e), wantID, int(want))
	}
	if got, want := told(f), fmt.Sprintf("%+v", all); got != want {
		t.Fatalf("Attach(%d, %d): the forest is\n%s, not\n%s", host, mode, got, want)
	}
}

func expectWhole(t *testing.T, f *arena.Forest, id, want int) {
	t.Helper()
	if got := Whole(f, id); got != want {
		t.Fatalf("Whole(%d) = %d, not %d", id, got, want)
	}
}

func expectHolds(t *testing.T, f *arena.Forest, a, b int, want bool) {
	t.Helper()
	if got := Holds(f, a, b); got != want {
		t.Fatalf("Holds(%d, %d) = %v, not %v", a, b, got, want)
	}
}

func expectHidden(t *testing.T, f *arena.Forest, a, b int, want bool) {
	t.Helper()
	if got := Hidden(f, a, b); got != want {
		t.Fatalf("Hidden(%d, %d) = %v, not %v", a, b, got, want)
	}
}

func expectClosed(t *testing.T, f *arena.Forest, id int, want ...int) {
	t.Helper()
	if got := Closed(f, id); !slices.Equal(got, want) {
		t.Fatalf("Closed(%d) = %v, not %v", id, got, want)
	}
}
