package kin

import (
	"fmt"
	"math"
	"slices"
	"testing"

	"towncrier/api"
	"towncrier/arena"
)

const (
	document = api.Document
	element  = api.Element
	shadow   = api.Shadow
	fragment = api.Fragment
)

// strays are numbers of which no forest has a node.
var strays = []int{0, -1, -2, -128, 129, 1 << 31, 1 << 32, 1<<32 + 1, math.MaxInt, math.MinInt, math.MinInt + 1}

// noKinds are numbers that are no kind.
var noKinds = []int{0, -1, -2, -4, 5, 6, 258, 1<<32 + 2, math.MaxInt, math.MinInt}

// house gives the forest that most tests look at:
//
//	1 (2 (5, 3 (7, 4, 8), 6))
//	9 (10 (11))
//	12
//	13
//
// 1 is a document, 9 the shadow root of 3, 8 and 13 are fragments, the others elements. The children don't stand in the order of their numbers.
func house(t *testing.T) *arena.Forest {
	t.Helper()
	f := grow(t, document, element, element, element, element, element, element, fragment, shadow, element, element, element, fragment)
	put(t, f, 1, 2)
	put(t, f, 2, 5, 3, 6)
	put(t, f, 3, 7, 4, 8)
	tie(t, f, 3, 9)
	put(t, f, 9, 10)
	put(t, f, 10, 11)
	return f
}

func TestTheChaptersExample(t *testing.T) {
	f := grow(t, element, element, element)
	put(t, f, 1, 2, 3)
	expectList(t, "Order(1)", Order(f, 1), 1, 2, 3)
	expectInt(t, "Root(3)", Root(f, 3), 1)
}

// P5.1

func TestRoot(t *testing.T) {
	f := house(t)
	for id, want := range map[int]int{
		1: 1, 2: 1, 3: 1, 4: 1, 5: 1, 6: 1, 7: 1, 8: 1,
		9: 9, 10: 9, 11: 9, 12: 12, 13: 13, 14: 0,
	} {
		expectInt(t, fmt.Sprintf("Root(%d)", id), Root(f, id), want)
	}
}

func TestUp(t *testing.T) {
	f := house(t)
	for id, want := range map[int][]int{
		1: {1}, 2: {2, 1}, 3: {3, 2, 1}, 4: {4, 3, 2, 1}, 5: {5, 2, 1}, 6: {6, 2, 1}, 7: {7, 3, 2, 1}, 8: {8, 3, 2, 1},
		9: {9}, 10: {10, 9}, 11: {11, 10, 9}, 12: {12}, 13: {13}, 14: {},
	} {
		expectList(t, fmt.Sprintf("Up(%d)", id), Up(f, id), want...)
	}
}

func TestOrder(t *testing.T) {
	f := house(t)
	for id, want := range map[int][]int{
		1: {1, 2, 5, 3, 7, 4, 8, 6}, 2: {2, 5, 3, 7, 4, 8, 6}, 3: {3, 7, 4, 8},
		4: {4}, 5: {5}, 6: {6}, 7: {7}, 8: {8},
		9: {9, 10, 11}, 10: {10, 11}, 11: {11}, 12: {12}, 13: {13}, 14: {},
	} {
		expectList(t, fmt.Sprintf("Order(%d)", id), Order(f, id), want...)
	}
}

func TestOrderGoesDownAheadOfGoingOn(t *testing.T) {
	f := grow(t, slices.Repeat([]int{element}, 9)...)
	put(t, f, 9, 8, 1)
	put(t, f, 8, 2, 7)
	put(t, f, 2, 6)
	put(t, f, 7, 3)
	put(t, f, 1, 5, 4)
	expectList(t, "Order(9)", Order(f, 9), 9, 8, 2, 6, 7, 3, 1, 5, 4)
	expectList(t, "Order(8)", Order(f, 8), 8, 2, 6, 7, 3)
	expectList(t, "Order(1)", Order(f, 1), 1, 5, 4)
}

func TestAbove(t *testing.T) {
	f := house(t)
	pairs := map[[2]int]bool{}
	for b, up := range map[int][]int{
		1: {1}, 2: {1, 2}, 3: {1, 2, 3}, 4: {1, 2, 3, 4}, 5: {1, 2, 5}, 6: {1, 2, 6}, 7: {1, 2, 3, 7}, 8: {1, 2, 3, 8},
		9: {9}, 10: {9, 10}, 11: {9, 10, 11}, 12: {12}, 13: {13},
	} {
		for _, a := range up {
			pairs[[2]int{a, b}] = true
		}
	}
	for a := -2; a <= 20; a++ {
		for b := -2; b <= 20; b++ {
			expectBool(t, fmt.Sprintf("Above(%d, %d)", a, b), Above(f, a, b), pairs[[2]int{a, b}])
		}
	}
}

func TestARootAlone(t *testing.T) {
	for _, kind := range []int{document, element, shadow, fragment} {
		f := grow(t, kind)
		expectInt(t, "Root", Root(f, 1), 1)
		expectList(t, "Up", Up(f, 1), 1)
		expectList(t, "Order", Order(f, 1), 1)
		expectBool(t, "Above", Above(f, 1, 1), true)
		expectInt(t, "Index", Index(f, 1), -1)
		expectInt(t, "Next", Next(f, 1), 0)
		for kind := range 6 {
			expectInt(t, "Count", Count(f, 1, kind), 0)
		}
	}
}

func TestAShadowRootIsARootAndNotBelowItsHost(t *testing.T) {
	for _, mode := range []int{api.Open, api.Closed} {
		f := grow(t, element, element, element)
		root, e := f.Make(api.Node{Kind: shadow, Mode: mode})
		if root != 4 || e != api.OK {
			t.Fatal(root, e)
		}
		put(t, f, 1, 2)
		put(t, f, 4, 3)
		tie(t, f, 2, 4)
		expectInt(t, "Root(4)", Root(f, 4), 4)
		expectInt(t, "Root(3)", Root(f, 3), 4)
		expectList(t, "Up(4)", Up(f, 4), 4)
		expectList(t, "Up(3)", Up(f, 3), 3, 4)
		expectList(t, "Order(1)", Order(f, 1), 1, 2)
		expectList(t, "Order(2)", Order(f, 2), 2)
		expectList(t, "Order(4)", Order(f, 4), 4, 3)
		for _, a := range []int{1, 2} {
			for _, b := range []int{3, 4} {
				expectBool(t, "Above the shadow tree", Above(f, a, b), false)
				expectBool(t, "Above the host", Above(f, b, a), false)
			}
		}
		expectInt(t, "Index(4)", Index(f, 4), -1)
		expectInt(t, "Next(4)", Next(f, 4), 0)
		expectInt(t, "Count(2)", Count(f, 2, shadow), 0)
		expectInt(t, "Count(2)", Count(f, 2, element), 0)
		expectInt(t, "Count(4)", Count(f, 4, element), 1)
	}
}

// P5.2

func TestIndexAndNext(t *testing.T) {
	f := house(t)
	for id, want := range map[int][2]int{
		1: {-1, 0}, 2: {0, 0},
		5: {0, 3}, 3: {1, 6}, 6: {2, 0},
		7: {0, 4}, 4: {1, 8}, 8: {2, 0},
		9: {-1, 0}, 10: {0, 0}, 11: {0, 0}, 12: {-1, 0}, 13: {-1, 0}, 14: {-1, 0},
	} {
		expectInt(t, fmt.Sprintf("Index(%d)", id), Index(f, id), want[0])
		expectInt(t, fmt.Sprintf("Next(%d)", id), Next(f, id), want[1])
	}
}

func TestCountOfEachKind(t *testing.T) {
	// A parent of each kind, with two elements, three fragments, and below them more that don't count.
	for _, kind := range []int{document, element, shadow, fragment} {
		f := grow(t, kind, element, fragment, fragment, element, fragment, element, fragment)
		put(t, f, 1, 3, 2, 4, 5, 6)
		put(t, f, 2, 7)
		put(t, f, 3, 8)
		for kind, want := range map[int]int{document: 0, element: 2, shadow: 0, fragment: 3} {
			expectInt(t, fmt.Sprintf("Count(1, %d)", kind), Count(f, 1, kind), want)
		}
		expectInt(t, "Count(2, element)", Count(f, 2, element), 1)
		expectInt(t, "Count(2, fragment)", Count(f, 2, fragment), 0)
		expectInt(t, "Count(3, element)", Count(f, 3, element), 0)
		expectInt(t, "Count(3, fragment)", Count(f, 3, fragment), 1)
		for id := 4; id <= 8; id++ {
			for kind := -1; kind <= 6; kind++ {
				expectInt(t, fmt.Sprintf("Count(%d, %d)", id, kind), Count(f, id, kind), 0)
			}
		}
	}
}

func TestCountOfNumbersThatAreNoKind(t *testing.T) {
	f := house(t)
	for id := 1; id <= f.Len(); id++ {
		for _, kind := range noKinds {
			expectInt(t, fmt.Sprintf("Count(%d, %d)", id, kind), Count(f, id, kind), 0)
		}
	}
}

// The greatest forests

func TestAChainOfAllNodes(t *testing.T) {
	f := grow(t, slices.Repeat([]int{element}, api.MaxNodes)...)
	// The chain goes from 128, its root, down to 1, so that no number tells the way.
	var down []int
	for id := api.MaxNodes; id >= 1; id-- {
		down = append(down, id)
		if id > 1 {
			put(t, f, id, id-1)
		}
	}
	for id := 1; id <= api.MaxNodes; id++ {
		up := slices.Clone(down[:api.MaxNodes-id+1])
		slices.Reverse(up)
		expectList(t, fmt.Sprintf("Up(%d)", id), Up(f, id), up...)
		expectList(t, fmt.Sprintf("Order(%d)", id), Order(f, id), down[api.MaxNodes-id:]...)
		expectInt(t, "Root", Root(f, id), 128)
		expectInt(t, "Next", Next(f, id), 0)
		for a := 1; a <= api.MaxNodes; a++ {
			expectBool(t, fmt.Sprintf("Above(%d, %d)", a, id), Above(f, a, id), a >= id)
		}
		index, count := 0, 1
		if id == api.MaxNodes {
			index = -1
		}
		if id == 1 {
			count = 0
		}
		expectInt(t, fmt.Sprintf("Index(%d)", id), Index(f, id), index)
		expectInt(t, fmt.Sprintf("Count(%d)", id), Count(f, id, element), count)
	}
}

func TestARowOfAllNodes(t *testing.T) {
	kinds := slices.Repeat([]int{element}, api.MaxNodes)
	for i := 1; i < len(kinds); i += 3 {
		kinds[i] = fragment
	}
	f := grow(t, kinds...)
	var kids []int
	for id := api.MaxNodes; id > 1; id-- {
		kids = append(kids, id)
	}
	put(t, f, 1, kids...)
	expectList(t, "Order(1)", Order(f, 1), append([]int{1}, kids...)...)
	expectInt(t, "Index(1)", Index(f, 1), -1)
	expectInt(t, "Next(1)", Next(f, 1), 0)
	for place, id := range kids {
		next := 0
		if place+1 < len(kids) {
			next = kids[place+1]
		}
		expectInt(t, fmt.Sprintf("Index(%d)", id), Index(f, id), place)
		expectInt(t, fmt.Sprintf("Next(%d)", id), Next(f, id), next)
		expectInt(t, "Root", Root(f, id), 1)
		expectList(t, "Up", Up(f, id), id, 1)
		expectList(t, "Order", Order(f, id), id)
		expectInt(t, "Count", Count(f, id, element), 0)
	}
	expectInt(t, "Count of elements", Count(f, 1, element), 84)
	expectInt(t, "Count of fragments", Count(f, 1, fragment), 43)
}

// Wrong inputs

func TestNodesThatAreNotThere(t *testing.T) {
	full := grow(t, slices.Repeat([]int{element}, api.MaxNodes)...)
	put(t, full, 1, 2, 3)
	for _, f := range []*arena.Forest{house(t), full} {
		before := told(f)
		beside := append([]int{f.Len() + 1}, strays...)
		for _, id := range beside {
			expectNothing(t, f, id)
			for there := 1; there <= f.Len(); there++ {
				expectBool(t, fmt.Sprintf("Above(%d, %d)", there, id), Above(f, there, id), false)
				expectBool(t, fmt.Sprintf("Above(%d, %d)", id, there), Above(f, id, there), false)
			}
			for _, other := range beside {
				expectBool(t, fmt.Sprintf("Above(%d, %d)", id, other), Above(f, id, other), false)
			}
		}
		if told(f) != before {
			t.Error("asking changed the forest")
		}
	}
}

func TestNilAndZeroForests(t *testing.T) {
	var zero arena.Forest
	for _, f := range []*arena.Forest{nil, &zero, arena.New()} {
		for _, id := range append([]int{1, 2, 3, 127, 128}, strays...) {
			expectNothing(t, f, id)
			for _, other := range append([]int{1, 2, 128}, strays...) {
				expectBool(t, fmt.Sprintf("Above(%d, %d)", id, other), Above(f, id, other), false)
			}
		}
		if f.Len() != 0 {
			t.Error("asking made a node")
		}
	}
}

func TestAZeroForestThatGotNodes(t *testing.T) {
	var f arena.Forest
	for range 3 {
		if _, e := f.Make(api.Node{Kind: element}); e != api.OK {
			t.Fatal(e)
		}
	}
	put(t, &f, 3, 2, 1)
	expectList(t, "Order(3)", Order(&f, 3), 3, 2, 1)
	expectList(t, "Up(1)", Up(&f, 1), 1, 3)
	expectInt(t, "Root(2)", Root(&f, 2), 3)
	expectInt(t, "Next(2)", Next(&f, 2), 1)
	expectInt(t, "Index(1)", Index(&f, 1), 1)
	expectInt(t, "Count(3)", Count(&f, 3, element), 2)
}

// R4 and R6

func TestAnswersGoWithTheForest(t *testing.T) {
	f := grow(t, element, element, element, element)
	put(t, f, 1, 2, 3)
	put(t, f, 3, 4)
	expectList(t, "Order(1)", Order(f, 1), 1, 2, 3, 4)
	put(t, f, 1, 3, 2)
	expectList(t, "Order(1)", Order(f, 1), 1, 3, 4, 2)
	expectInt(t, "Next(3)", Next(f, 3), 2)
	expectInt(t, "Index(2)", Index(f, 2), 1)
	put(t, f, 1, 2)
	expectList(t, "Order(1)", Order(f, 1), 1, 2)
	expectInt(t, "Root(4)", Root(f, 4), 3)
	expectInt(t, "Index(3)", Index(f, 3), -1)
	expectInt(t, "Count(1)", Count(f, 1, element), 1)
	put(t, f, 2, 3)
	expectList(t, "Up(4)", Up(f, 4), 4, 3, 2, 1)
	expectBool(t, "Above(2, 4)", Above(f, 2, 4), true)
}

func TestForestsAreApart(t *testing.T) {
	f, g := house(t), grow(t, element, element)
	put(t, g, 2, 1)
	expectList(t, "Order(2)", Order(g, 2), 2, 1)
	expectList(t, "Order(3)", Order(f, 3), 3, 7, 4, 8)
	expectInt(t, "Root(1)", Root(g, 1), 2)
	expectInt(t, "Root(2)", Root(f, 2), 1)
}

func TestWhatIsToldMayBeWrittenOver(t *testing.T) {
	f := house(t)
	before := told(f)
	for _, ask := range []func(*arena.Forest, int) []int{Up, Order} {
		for id := 1; id <= f.Len(); id++ {
			first, second := ask(f, id), ask(f, id)
			kept := slices.Clone(second)
			for i := range first {
				first[i] = -9
			}
			_ = append(first, 91, 92)
			_ = append(first[:0], 93)
			if !slices.Equal(second, kept) || !slices.Equal(ask(f, id), kept) {
				t.Fatalf("node %d: answers share memory", id)
			}
		}
	}
	if told(f) != before {
		t.Error("the forest changed by what was done to the answers")
	}
}

func TestAskingChangesNothing(t *testing.T) {
	f := house(t)
	before := told(f)
	for range 2 {
		for id := -1; id <= f.Len()+1; id++ {
			Root(f, id)
			Up(f, id)
			Above(f, id, 4)
			Order(f, id)
			Index(f, id)
			Next(f, id)
			Count(f, id, element)
		}
	}
	if told(f) != before {
		t.Error("asking changed the forest")
	}
}

// grow gives a forest of nodes of these kinds.
func grow(t *testing.T, kinds ...int) *arena.Forest {
	t.Helper()
	f := arena.New()
	for _, kind := range kinds {
		n := api.Node{Kind: kind}
		if kind == shadow {
			n.Mode = api.Open
		}
		if _, e := f.Make(n); e != api.OK {
			t.Fatal(e)
		}
	}
	return f
}

func put(t *testing.T, f *arena.Forest, parent int, kids ...int) {
	t.Helper()
	if e := f.Put(parent, kids...); e != api.OK {
		t.Fatalf("Put(%d, %v): %v", parent, kids, e)
	}
}

func tie(t *testing.T, f *arena.Forest, host, root int) {
	t.Helper()
	if e := f.Tie(host, root); e != api.OK {
		t.Fatalf("Tie(%d, %d): %v", host, root, e)
	}
}

// told gives a text of all that a forest tells.
func told(f *arena.Forest) string { return fmt.Sprintf("%+v", f.All()) }

// expectNothing looks at all that is told of a node that isn't there.
func expectNothing(t *testing.T, f *arena.Forest, id int) {
	t.Helper()
	expectInt(t, fmt.Sprintf("Root(%d)", id), Root(f, id), 0)
	expectList(t, fmt.Sprintf("Up(%d)", id), Up(f, id))
	expectList(t, fmt.Sprintf("Order(%d)", id), Order(f, id))
	expectBool(t, fmt.Sprintf("Above(%d, %d)", id, id), Above(f, id, id), false)
	expectInt(t, fmt.Sprintf("Index(%d)", id), Index(f, id), -1)
	expectInt(t, fmt.Sprintf("Next(%d)", id), Next(f, id), 0)
	for _, kind := range append([]int{document, element, shadow, fragment}, noKinds...) {
		expectInt(t, fmt.Sprintf("Count(%d, %d)", id, kind), Count(f, id, kind), 0)
	}
}

func expectInt(t *testing.T, what string, got, want int) {
	t.Helper()
	if got != want {
		t.Fatalf("%s = %d, not %d", what, got, want)
	}
}

func expectBool(t *testing.T, what string, got, want bool) {
	t.Helper()
	if got != want {
		t.Fatalf("%s = %v, not %v", what, got, want)
	}
}

func expectList(t *testing.T, what string, got []int, want ...int) {
	t.Helper()
	if !slices.Equal(got, want) {
		t.Fatalf("%s = %v, not %v", what, got, want)
	}
}
