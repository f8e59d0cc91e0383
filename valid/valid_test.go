package valid

import (
	"fmt"
	"math"
	"slices"
	"testing"

	"towncrier/api"
	"towncrier/arena"
)

const (
	document = api.Document
	element  = api.Element
	shadow   = api.Shadow
	fragment = api.Fragment
)

const (
	ok        = api.OK
	arg       = api.ErrArg
	hierarchy = api.ErrHierarchy
	notFound  = api.ErrNotFound
)

// strays are numbers of which no forest has a node; 0 is one too, but as a child it stands for none.
var strays = []int{-1, -2, -128, 129, 1 << 31, 1 << 32, 1<<32 + 1, math.MaxInt, math.MinInt, math.MinInt + 1}

// house gives the forest that most tests look at:
//
//	1 (2 (5, 3 (4)))
//	9 (10, 7 (8)), the shadow tree of 3
//	6 (13 (12)), the shadow tree of 8
//	11 (15), a shadow tree without a host
//	14
//	16 (17, 18)
//	19
//
// 1 and 14 are documents, 9, 6 and 11 shadow roots, 16 is a fragment, the others are elements. The numbers don't tell who is above whom.
func house(t *testing.T) *arena.Forest {
	t.Helper()
	f := grow(t,
		document, element, element, element, element,
		shadow, element, element, shadow, element,
		shadow, element, element, document, element,
		fragment, element, element, element)
	put(t, f, 1, 2)
	put(t, f, 2, 5, 3)
	put(t, f, 3, 4)
	put(t, f, 9, 10, 7)
	put(t, f, 7, 8)
	put(t, f, 6, 13)
	put(t, f, 13, 12)
	put(t, f, 11, 15)
	put(t, f, 16, 17, 18)
	tie(t, f, 3, 9)
	tie(t, f, 8, 6)
	return f
}

func TestTheChaptersExample(t *testing.T) {
	f := grow(t, document, element, element)
	expectCheck(t, f, 2, 1, 0, ok)
	put(t, f, 1, 2)
	expectCheck(t, f, 3, 1, 0, hierarchy)
}

// P6.1

func TestHostOfAllPairs(t *testing.T) {
	f := house(t)
	before := told(f)
	above := map[int][]int{
		1: {1}, 2: {2, 1}, 5: {5, 2, 1}, 3: {3, 2, 1}, 4: {4, 3, 2, 1},
		9: {9, 3, 2, 1}, 10: {10, 9, 3, 2, 1}, 7: {7, 9, 3, 2, 1}, 8: {8, 7, 9, 3, 2, 1},
		6: {6, 8, 7, 9, 3, 2, 1}, 13: {13, 6, 8, 7, 9, 3, 2, 1}, 12: {12, 13, 6, 8, 7, 9, 3, 2, 1},
		11: {11}, 15: {15, 11}, 14: {14}, 16: {16}, 17: {17, 16}, 18: {18, 16}, 19: {19},
	}
	for a := -2; a <= f.Len()+3; a++ {
		for b := -2; b <= f.Len()+3; b++ {
			expectHost(t, f, a, b, slices.Contains(above[b], a))
		}
	}
	expectUnchanged(t, f, before)
}

func TestHostWithinATree(t *testing.T) {
	f := house(t)
	for _, x := range []struct {
		what string
		a, b int
		want bool
	}{
		{"itself, a root", 1, 1, true},
		{"itself, a leaf", 4, 4, true},
		{"itself, alone", 19, 19, true},
		{"its parent", 3, 4, true},
		{"its parent's parent", 2, 4, true},
		{"its root", 1, 4, true},
		{"its child", 4, 3, false},
		{"what is below it", 4, 1, false},
		{"the child beside it", 5, 3, false},
		{"the child beside its parent", 5, 4, false},
		{"a root elsewhere", 14, 4, false},
		{"alone elsewhere", 19, 4, false},
		{"a fragment as its parent", 16, 18, true},
	} {
		t.Run(x.what, func(t *testing.T) { expectHost(t, f, x.a, x.b, x.want) })
	}
}

func TestHostAcrossShadowRoots(t *testing.T) {
	f := house(t)
	for _, x := range []struct {
		what string
		a, b int
		want bool
	}{
		{"a shadow root's host", 3, 9, true},
		{"its host's root", 1, 9, true},
		{"the host of a node's root", 3, 8, true},
		{"the parent of that host", 2, 8, true},
		{"the host's child, which isn't above", 4, 8, false},
		{"the child beside the host", 5, 8, false},
		{"across two shadow roots: the inner host", 8, 12, true},
		{"across two shadow roots: the outer root", 9, 12, true},
		{"across two shadow roots: the outer host", 3, 12, true},
		{"across two shadow roots: the document", 1, 12, true},
		{"beside the way, in the outer shadow tree", 10, 12, false},
		{"a shadow root of its host", 9, 3, false},
		{"what is in a shadow tree, of the host", 8, 3, false},
		{"what is in a shadow tree, of the host's child", 9, 4, false},
		{"a shadow root without a host, of its child", 11, 15, true},
		{"a shadow root without a host, of itself", 11, 11, true},
		{"another host, of what has none", 3, 15, false},
		{"a document, of a shadow root without a host", 1, 11, false},
	} {
		t.Run(x.what, func(t *testing.T) { expectHost(t, f, x.a, x.b, x.want) })
	}
}

func TestHostAsksNoMode(t *testing.T) {
	for _, mode := range []int{api.Open, api.Closed} {
		f := grow(t, element, element)
		root, e := f.Make(api.Node{Kind: shadow, Mode: mode})
		if root != 3 || e != api.OK {
			t.Fatal(root, e)
		}
		put(t, f, 3, 2)
		expectHost(t, f, 1, 2, false)
		tie(t, f, 1, 3)
		expectHost(t, f, 1, 2, true)
		expectHost(t, f, 1, 3, true)
		expectHost(t, f, 2, 1, false)
		expectHost(t, f, 3, 1, false)
		expectCheck(t, f, 1, 2, 0, hierarchy)
		expectCheck(t, f, 2, 1, 0, ok)
	}
}

func TestHostOfWhatIsNotThere(t *testing.T) {
	f := house(t)
	before := told(f)
	beside := append([]int{0, f.Len() + 1, 128}, strays...)
	for _, stray := range beside {
		for there := 1; there <= f.Len(); there++ {
			expectHost(t, f, stray, there, false)
			expectHost(t, f, there, stray, false)
		}
		for _, other := range beside {
			expectHost(t, f, stray, other, false)
		}
	}
	expectUnchanged(t, f, before)
}

// P6.2: ErrArg

func TestCheckOfWhatIsNotThere(t *testing.T) {
	f := house(t)
	before := told(f)
	for _, stray := range append([]int{f.Len() + 1, 128}, strays...) {
		expectCheck(t, f, stray, 2, 0, arg)
		expectCheck(t, f, stray, 2, 3, arg)
		expectCheck(t, f, 19, stray, 0, arg)
		expectCheck(t, f, 19, stray, 3, arg)
		expectCheck(t, f, 19, 2, stray, arg)
		expectCheck(t, f, stray, stray, 0, arg)
		expectCheck(t, f, stray, 2, stray, arg)
		expectCheck(t, f, 19, stray, stray, arg)
		expectCheck(t, f, stray, stray, stray, arg)
	}
	// A node or a parent of 0 isn't there; a child of 0 is none, and no fault.
	expectCheck(t, f, 0, 2, 0, arg)
	expectCheck(t, f, 19, 0, 0, arg)
	expectCheck(t, f, 0, 0, 0, arg)
	expectCheck(t, f, 19, 2, 0, ok)
	// 19 has no parent, and that isn't a parent of the number 0.
	expectCheck(t, f, 17, 0, 19, arg)
	expectUnchanged(t, f, before)
}

func TestErrArgIsToldAheadOfAllElse(t *testing.T) {
	f := house(t)
	for _, x := range []struct {
		what                string
		node, parent, child int
	}{
		{"a node to itself", 2, 2, 99},
		{"a node below itself", 2, 4, 99},
		{"a node into its shadow tree", 3, 9, -1},
		{"a Document as the node", 14, 2, 99},
		{"a Shadow as the node", 11, 2, -1},
		{"an Element to a Document with one", 19, 1, 99},
		{"a Fragment with two Elements to a Document", 16, 14, -1},
		{"a child elsewhere and no node", 99, 2, 4},
		{"a child elsewhere and no parent", 19, 99, 4},
		{"a Document as the node, and no parent", 14, 0, 0},
	} {
		t.Run(x.what, func(t *testing.T) { expectCheck(t, f, x.node, x.parent, x.child, arg) })
	}
}

// P6.2: the host-including inclusive ancestors

func TestCheckOfANodeIntoItself(t *testing.T) {
	f := house(t)
	for _, x := range []struct {
		what         string
		node, parent int
		want         api.Errno
	}{
		{"to itself", 19, 19, hierarchy},
		{"to itself, with children", 2, 2, hierarchy},
		{"to its child", 3, 4, hierarchy},
		{"further below itself", 2, 4, hierarchy},
		{"to its shadow root", 3, 9, hierarchy},
		{"into its shadow tree", 3, 7, hierarchy},
		{"deeper into its shadow tree", 3, 8, hierarchy},
		{"into a shadow tree within it", 2, 10, hierarchy},
		{"to the root of a shadow tree within it", 2, 9, hierarchy},
		{"into a shadow tree within its shadow tree", 3, 12, hierarchy},
		{"into a shadow tree two levels within it", 2, 6, hierarchy},
		{"in a shadow tree into one within it", 7, 12, hierarchy},
		{"a Fragment to itself", 16, 16, hierarchy},
		{"a Fragment to its child", 16, 17, hierarchy},
		{"to its parent", 4, 3, ok},
		{"to its parent's parent", 4, 2, ok},
		{"to the child beside it", 5, 3, ok},
		{"from a shadow tree to its host", 7, 3, ok},
		{"from a shadow tree to above its host", 7, 2, ok},
		{"from an inner shadow tree to outside of both", 12, 2, ok},
		{"to its root, which is a Shadow", 8, 9, ok},
		{"beside its way into a shadow tree", 4, 7, ok},
		{"into a shadow tree without a host", 2, 11, ok},
		{"to what is alone", 2, 19, ok},
	} {
		t.Run(x.what, func(t *testing.T) { expectCheck(t, f, x.node, x.parent, 0, x.want) })
	}
}

func TestErrHierarchyOfAncestorsIsToldAheadOfErrNotFound(t *testing.T) {
	f := house(t)
	for _, x := range []struct{ node, parent, child int }{
		// The child has another parent, or none.
		{19, 19, 4}, {2, 2, 4}, {2, 4, 19}, {3, 9, 4}, {2, 8, 9}, {16, 17, 18}, {3, 12, 3}, {2, 4, 2}, {1, 4, 11}, {9, 7, 14},
		// The child is one of parent.
		{2, 2, 3}, {2, 3, 4}, {3, 9, 7}, {2, 13, 12}, {1, 2, 5},
	} {
		expectCheck(t, f, x.node, x.parent, x.child, hierarchy)
	}
}

// P6.2: ErrNotFound

func TestCheckOfTheChild(t *testing.T) {
	f := house(t)
	for _, x := range []struct {
		what                string
		node, parent, child int
		want                api.Errno
	}{
		{"none", 19, 2, 0, ok},
		{"none, of a parent without children", 19, 4, 0, ok},
		{"the first one", 19, 2, 5, ok},
		{"the last one", 19, 2, 3, ok},
		{"of a Shadow", 19, 9, 7, ok},
		{"of a Fragment", 19, 16, 17, ok},
		{"the node itself", 5, 2, 5, ok},
		{"the node itself, which is behind all", 3, 2, 3, ok},
		{"the one behind the node", 5, 2, 3, ok},
		{"the one ahead of the node", 3, 2, 5, ok},
		{"one of another parent", 19, 2, 4, notFound},
		{"one of another tree", 19, 2, 17, notFound},
		{"one that has no parent", 17, 2, 19, notFound},
		{"a Document", 17, 2, 14, notFound},
		{"the parent", 19, 2, 2, notFound},
		{"the parent, which has no parent", 17, 19, 19, notFound},
		{"the parent's parent", 19, 3, 2, notFound},
		{"the node, which has no parent", 19, 2, 19, notFound},
		{"the node, which has another parent", 4, 2, 4, notFound},
		{"one of the node's children", 3, 19, 4, notFound},
		{"the parent's shadow root", 19, 3, 9, notFound},
		{"one of the parent's shadow tree", 19, 3, 10, notFound},
		{"the parent's host", 19, 9, 3, notFound},
		{"one of the host's children", 19, 9, 4, notFound},
	} {
		t.Run(x.what, func(t *testing.T) { expectCheck(t, f, x.node, x.parent, x.child, x.want) })
	}
}

func TestErrNotFoundIsToldAheadOfTheKinds(t *testing.T) {
	f := house(t)
	for _, x := range []struct {
		what                string
		node, parent, child int
		beside              api.Errno // what is told with a child of parent, or none
		one                 int
	}{
		{"a Document as the node", 14, 2, 4, hierarchy, 3},
		{"a Shadow as the node", 11, 2, 19, hierarchy, 5},
		{"an Element to a Document with one", 19, 1, 5, hierarchy, 2},
		{"that Element itself", 2, 1, 3, hierarchy, 2},
		{"a Fragment with two Elements to a Document with one", 16, 1, 17, hierarchy, 2},
		{"a Fragment with two Elements to a Document without", 16, 14, 2, hierarchy, 0},
		{"a Document to a Document", 14, 1, 14, hierarchy, 2},
		{"nothing besides", 19, 2, 4, ok, 5},
	} {
		t.Run(x.what, func(t *testing.T) {
			expectCheck(t, f, x.node, x.parent, x.child, notFound)
			expectCheck(t, f, x.node, x.parent, x.one, x.beside)
		})
	}
}

// P6.2: the kinds

func TestCheckOfADocumentOrAShadowAsTheNode(t *testing.T) {
	for _, kind := range []int{document, shadow} {
		for _, parent := range []int{document, element, shadow, fragment} {
			// The node has an element below it, or nothing; the parent has a child, or none.
			f := grow(t, kind, parent, element, fragment)
			expectCheck(t, f, 1, 2, 0, hierarchy)
			put(t, f, 1, 3)
			expectCheck(t, f, 1, 2, 0, hierarchy)
			put(t, f, 2, 4)
			expectCheck(t, f, 1, 2, 0, hierarchy)
			expectCheck(t, f, 1, 2, 4, hierarchy)
		}
	}
	// A Shadow with a host, to where it isn't above.
	f := house(t)
	for _, parent := range []int{1, 2, 3, 4, 11, 14, 16, 19} {
		expectCheck(t, f, 9, parent, 0, hierarchy)
		expectCheck(t, f, 6, parent, 0, hierarchy)
	}
}

// bundle gives a forest with the node to be put, 2, of that kind, with these children, and the parent, 1, of that kind, with those; and the parent's first child.
func bundle(t *testing.T, node int, mine []int, parent int, its []int) (*arena.Forest, int) {
	t.Helper()
	f := grow(t, parent, node)
	put(t, f, 1, sow(t, f, its)...)
	put(t, f, 2, sow(t, f, mine)...)
	n, _ := f.Node(1)
	if len(n.Kids) == 0 {
		return f, 0
	}
	return f, n.Kids[0]
}

func TestElementsToADocument(t *testing.T) {
	const e, g = element, fragment
	type row struct {
		node int
		mine []int
		its  []int
		want api.Errno
	}
	for _, x := range []row{
		// An Element, whatever is below it.
		{e, nil, nil, ok}, {e, []int{e, e}, nil, ok}, {e, nil, []int{g}, ok}, {e, nil, []int{g, g}, ok},
		{e, nil, []int{e}, hierarchy}, {e, []int{e}, []int{e}, hierarchy}, {e, nil, []int{g, e}, hierarchy}, {e, nil, []int{e, g}, hierarchy}, {e, nil, []int{e, e}, hierarchy},
		// A Fragment without Elements, also where the Document has too many already.
		{g, nil, nil, ok}, {g, nil, []int{e}, ok}, {g, nil, []int{e, e}, ok}, {g, []int{g}, nil, ok}, {g, []int{g, g}, []int{e}, ok}, {g, []int{g}, []int{e, g, e}, ok},
		// A Fragment with one.
		{g, []int{e}, nil, ok}, {g, []int{g, e}, nil, ok}, {g, []int{e, g}, nil, ok}, {g, []int{g, e, g}, []int{g}, ok}, {g, []int{e}, []int{g, g}, ok},
		{g, []int{e}, []int{e}, hierarchy}, {g, []int{g, e}, []int{e}, hierarchy}, {g, []int{e, g}, []int{g, e}, hierarchy}, {g, []int{e}, []int{e, e}, hierarchy},
		// A Fragment with several.
		{g, []int{e, e}, nil, hierarchy}, {g, []int{e, g, e}, nil, hierarchy}, {g, []int{g, e, e}, []int{g}, hierarchy}, {g, []int{e, e, e}, nil, hierarchy},
		{g, []int{e, e}, []int{e}, hierarchy}, {g, []int{e, e, e}, []int{e, g}, hierarchy}, {g, []int{e, e}, []int{e, e}, hierarchy},
	} {
		f, first := bundle(t, x.node, x.mine, document, x.its)
		before := told(f)
		expectCheck(t, f, 2, 1, 0, x.want)
		expectCheck(t, f, 2, 1, first, x.want)
		expectUnchanged(t, f, before)
		// The same is no matter to the other kinds.
		for _, parent := range []int{element, shadow, fragment} {
			f, first := bundle(t, x.node, x.mine, parent, x.its)
			expectCheck(t, f, 2, 1, 0, ok)
			expectCheck(t, f, 2, 1, first, ok)
		}
	}
}

func TestADocumentsElementItself(t *testing.T) {
	f := grow(t, document, element, fragment, fragment, element)
	put(t, f, 1, 3, 2, 4)
	put(t, f, 4, 5)
	// 2 counts, though it would leave ahead of being put.
	for _, child := range []int{0, 2, 3, 4} {
		expectCheck(t, f, 2, 1, child, hierarchy)
	}
	// 4 brings 5 to where 2 is; 3 brings nothing.
	for _, child := range []int{0, 2, 3, 4} {
		expectCheck(t, f, 4, 1, child, hierarchy)
		expectCheck(t, f, 3, 1, child, ok)
	}
	expectCheck(t, f, 5, 1, 0, hierarchy)
	put(t, f, 1, 4, 3)
	// A Fragment among the Document's children may bring its Element, as long as there is none.
	for _, child := range []int{0, 3, 4} {
		expectCheck(t, f, 4, 1, child, ok)
		expectCheck(t, f, 5, 1, child, ok)
		expectCheck(t, f, 2, 1, child, ok)
	}
}

func TestTheElementItselfElsewhere(t *testing.T) {
	for _, parent := range []int{element, shadow, fragment} {
		f := grow(t, parent, element, element)
		put(t, f, 1, 2, 3)
		for _, child := range []int{0, 2, 3} {
			expectCheck(t, f, 2, 1, child, ok)
			expectCheck(t, f, 3, 1, child, ok)
		}
	}
}

func TestOnlyChildrenCount(t *testing.T) {
	// What is further below, in a shadow tree, or in another document counts neither for the Document nor for the Fragment.
	f := grow(t, document, fragment, element, element, fragment, fragment, element, element, element, document, element, shadow, element)
	put(t, f, 1, 2)
	put(t, f, 2, 3, 4)
	put(t, f, 5, 6, 9)
	put(t, f, 6, 7, 8)
	put(t, f, 10, 11)
	put(t, f, 12, 13)
	tie(t, f, 9, 12)
	expectCheck(t, f, 5, 1, 0, ok)
	expectCheck(t, f, 5, 1, 2, ok)
	expectCheck(t, f, 7, 1, 0, ok)
	expectCheck(t, f, 11, 1, 0, ok)
	expectCheck(t, f, 9, 1, 0, ok)
	expectCheck(t, f, 13, 1, 0, ok)
	expectCheck(t, f, 3, 1, 2, ok)
	expectCheck(t, f, 6, 1, 0, hierarchy)
	expectCheck(t, f, 2, 1, 0, hierarchy)
	put(t, f, 5, 6)
	expectCheck(t, f, 5, 10, 0, ok)
	expectCheck(t, f, 9, 10, 0, hierarchy)
}

// A slot is an Element like any other one.
func TestSlotsAreElements(t *testing.T) {
	f := grow(t, document, element)
	slot, e := f.Make(api.Node{Kind: element, Slot: true, Name: "a", Want: "b"})
	if slot != 3 || e != api.OK {
		t.Fatal(slot, e)
	}
	expectCheck(t, f, 3, 1, 0, ok)
	put(t, f, 1, 3)
	expectCheck(t, f, 2, 1, 0, hierarchy)
	expectCheck(t, f, 2, 3, 0, ok)
	expectCheck(t, f, 3, 2, 0, ok)
	expectCheck(t, f, 3, 1, 0, hierarchy)
	put(t, f, 1, 2)
	expectCheck(t, f, 3, 1, 0, hierarchy)
}

// The greatest forests

func TestAsManyShadowTreesAsCanBe(t *testing.T) {
	// 128 is the host of 127, that the parent of 126, that the host of 125, and so on down to 1.
	var kinds []int
	for range api.MaxNodes / 2 {
		kinds = append(kinds, shadow, element)
	}
	f := grow(t, kinds...)
	for id := api.MaxNodes; id > 1; id-- {
		if id%2 == 0 {
			tie(t, f, id, id-1)
		} else {
			put(t, f, id, id-1)
		}
	}
	before := told(f)
	for a := 1; a <= api.MaxNodes; a++ {
		for b := 1; b <= api.MaxNodes; b++ {
			expectHost(t, f, a, b, a >= b)
			want := ok
			if a >= b || a%2 == 1 {
				want = hierarchy
			}
			expectCheck(t, f, a, b, 0, want)
		}
	}
	expectUnchanged(t, f, before)
}

func TestARowOfAllNodes(t *testing.T) {
	f := grow(t, append([]int{fragment, document}, slices.Repeat([]int{element}, api.MaxNodes-2)...)...)
	var kids []int
	for id := api.MaxNodes; id > 2; id-- {
		kids = append(kids, id)
	}
	put(t, f, 1, kids...)
	expectCheck(t, f, 1, 2, 0, hierarchy)
	for _, id := range kids {
		expectHost(t, f, 1, id, true)
		expectHost(t, f, 2, id, false)
		expectCheck(t, f, id, 1, kids[0], ok)
		expectCheck(t, f, kids[0], 1, id, ok)
		expectCheck(t, f, id, 2, 0, ok)
		expectCheck(t, f, id, 2, id, notFound)
		expectCheck(t, f, 1, id, 0, hierarchy)
	}
	// The Document has them all, and the Fragment none.
	put(t, f, 1)
	put(t, f, 2, kids...)
	expectCheck(t, f, 1, 2, 0, ok)
	for _, id := range kids {
		expectCheck(t, f, id, 2, 0, hierarchy)
		expectCheck(t, f, 1, 2, id, ok)
	}
}

// Nil and zero forests

func TestNilAndZeroForests(t *testing.T) {
	var zero arena.Forest
	numbers := append([]int{0, 1, 2, 3, 128}, strays...)
	for _, f := range []*arena.Forest{nil, &zero, arena.New()} {
		for _, a := range numbers {
			for _, b := range numbers {
				expectHost(t, f, a, b, false)
				for _, c := range numbers {
					expectCheck(t, f, a, b, c, arg)
				}
			}
		}
		if f.Len() != 0 {
			t.Error("asking made a node")
		}
	}
}

func TestAZeroForestThatGotNodes(t *testing.T) {
	var f arena.Forest
	for range 3 {
		if _, e := f.Make(api.Node{Kind: element}); e != api.OK {
			t.Fatal(e)
		}
	}
	put(t, &f, 3, 2)
	expectHost(t, &f, 3, 2, true)
	expectHost(t, &f, 2, 3, false)
	expectCheck(t, &f, 1, 3, 2, ok)
	expectCheck(t, &f, 1, 2, 2, notFound)
	expectCheck(t, &f, 3, 2, 0, hierarchy)
	expectCheck(t, &f, 4, 3, 0, arg)
}

// R4 and R6

func TestAskingChangesNothing(t *testing.T) {
	f := house(t)
	before := told(f)
	var first []string
	for range 2 {
		var answers []string
		for node := -1; node <= f.Len()+1; node++ {
			for parent := -1; parent <= f.Len()+1; parent++ {
				answers = append(answers, fmt.Sprint(Host(f, node, parent)))
				for child := -1; child <= f.Len()+1; child++ {
					answers = append(answers, fmt.Sprint(int(Check(f, node, parent, child))))
				}
			}
		}
		if first != nil && !slices.Equal(answers, first) {
			t.Error("the second time something else is told")
		}
		first = answers
	}
	expectUnchanged(t, f, before)
}

func TestAnswersGoWithTheForest(t *testing.T) {
	f := grow(t, document, element, element, shadow)
	expectCheck(t, f, 2, 1, 0, ok)
	put(t, f, 1, 3)
	expectCheck(t, f, 2, 1, 0, hierarchy)
	expectCheck(t, f, 2, 1, 3, hierarchy)
	put(t, f, 1)
	expectCheck(t, f, 2, 1, 0, ok)
	expectCheck(t, f, 2, 1, 3, notFound)
	put(t, f, 4, 3)
	expectHost(t, f, 2, 3, false)
	expectCheck(t, f, 2, 3, 0, ok)
	tie(t, f, 2, 4)
	expectHost(t, f, 2, 3, true)
	expectCheck(t, f, 2, 3, 0, hierarchy)
	put(t, f, 4)
	expectHost(t, f, 2, 3, false)
	expectCheck(t, f, 2, 3, 0, ok)
}

func TestForestsAreApart(t *testing.T) {
	f, g := house(t), grow(t, document, element)
	expectCheck(t, g, 2, 1, 0, ok)
	expectCheck(t, f, 19, 1, 0, hierarchy)
	expectCheck(t, g, 2, 1, 0, ok)
	expectHost(t, f, 1, 2, true)
	expectHost(t, g, 1, 2, false)
}

// grow gives a forest of nodes of these kinds.
func grow(t *testing.T, kinds ...int) *arena.Forest {
	t.Helper()
	f := arena.New()
	sow(t, f, kinds)
	return f
}

// sow adds nodes of these kinds, and gives their numbers.
func sow(t *testing.T, f *arena.Forest, kinds []int) []int {
	t.Helper()
	var ids []int
	for _, kind := range kinds {
		n := api.Node{Kind: kind}
		if kind == shadow {
			n.Mode = api.Open
		}
		id, e := f.Make(n)
		if e != api.OK {
			t.Fatal(e)
		}
		ids = append(ids, id)
	}
	return ids
}

func put(t *testing.T, f *arena.Forest, parent int, kids ...int) {
	t.Helper()
	if e := f.Put(parent, kids...); e != api.OK {
		t.Fatalf("Put(%d, %v): %v", parent, kids, e)
	}
}

func tie(t *testing.T, f *arena.Forest, host, root int) {
	t.Helper()
	if e := f.Tie(host, root); e != api.OK {
		t.Fatalf("Tie(%d, %d): %v", host, root, e)
	}
}

// told gives a text of all that a forest tells.
func told(f *arena.Forest) string { return fmt.Sprintf("%+v", f.All()) }

func expectUnchanged(t *testing.T, f *arena.Forest, before string) {
	t.Helper()
	if told(f) != before {
		t.Fatal("asking changed the forest")
	}
}

func expectHost(t *testing.T, f *arena.Forest, a, b int, want bool) {
	t.Helper()
	if got := Host(f, a, b); got != want {
		t.Fatalf("Host(%d, %d) = %v, not %v", a, b, got, want)
	}
}

func expectCheck(t *testing.T, f *arena.Forest, node, parent, child int, want api.Errno) {
	t.Helper()
	if got := Check(f, node, parent, child); got != want {
		t.Fatalf("Check(%d, %d, %d) = %d, not %d", node, parent, child, int(got), int(want))
	}
}
