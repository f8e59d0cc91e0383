package edit

import (
	"fmt"
	"math"
	"slices"
	"testing"

	"towncrier/api"
	"towncrier/arena"
	"towncrier/kin"
)

const (
	document = api.Document
	element  = api.Element
	shadow   = api.Shadow
	fragment = api.Fragment
)

const (
	ok        = api.OK
	arg       = api.ErrArg
	hierarchy = api.ErrHierarchy
	notFound  = api.ErrNotFound
)

// strays are numbers of which no forest has a node; 0 is one too, but as a child it stands for none.
var strays = []int{-1, -2, -128, 129, 1 << 31, 1 << 32, 1<<32 + 1, math.MaxInt, math.MinInt, math.MinInt + 1}

// lists are the children of some parents.
type lists map[int][]int

// house gives the forest that most tests change:
//
//	1 (2 (3, 4, 5, 6 (7)))
//	8 (9 (10)), the closed shadow tree of 4
//	11 (12 (13), 14)
//	15
//	16
//	17 (18)
//	19 (20, 21 (22), 23)
//	24 (25 (26, 27), 28)
//	29
//	30
//
// 1 and 30 are documents, 8 is a shadow root, 16, 17, 19 and 25 are fragments, the others are elements, of which 9 is a slot and 7, 12 and 21 want one.
func house(t *testing.T) *arena.Forest {
	t.Helper()
	f := grow(t,
		document, element, element, element, element, element, element,
		shadow, element, element,
		element, element, element, element, element,
		fragment, fragment, element, fragment, element, element, element, element,
		element, fragment, element, element, element, element, document)
	put(t, f, 1, 2)
	put(t, f, 2, 3, 4, 5, 6)
	put(t, f, 6, 7)
	put(t, f, 8, 9)
	put(t, f, 9, 10)
	put(t, f, 11, 12, 14)
	put(t, f, 12, 13)
	put(t, f, 17, 18)
	put(t, f, 19, 20, 21, 23)
	put(t, f, 21, 22)
	put(t, f, 24, 25, 28)
	put(t, f, 25, 26, 27)
	expectOK(t, f.Tie(4, 8))
	expectOK(t, f.Name(9, "door"))
	for _, id := range []int{7, 12, 21} {
		expectOK(t, f.Want(id, "door"))
	}
	return f
}

func TestTheChaptersExample(t *testing.T) {
	f := grow(t, element, element, element)
	put(t, f, 1, 2, 3)
	before := f.All()
	expectOK(t, Before(f, 3, 1, 2))
	expectLists(t, f, before, lists{1: {3, 2}})
}

// P7.1 and P7.3: what is put

// A move is a call of Before, and the lists that it leaves otherwise than they were.
type move struct {
	what                string
	node, parent, child int
	want                lists
}

func expectMoves(t *testing.T, moves []move) {
	t.Helper()
	for _, x := range moves {
		t.Run(x.what, func(t *testing.T) {
			f := house(t)
			before := f.All()
			expectOK(t, Before(f, x.node, x.parent, x.child))
			expectLists(t, f, before, x.want)
		})
	}
}

func TestANodeWithoutAParent(t *testing.T) {
	expectMoves(t, []move{
		{"behind all", 29, 2, 0, lists{2: {3, 4, 5, 6, 29}}},
		{"ahead of the first", 29, 2, 3, lists{2: {29, 3, 4, 5, 6}}},
		{"ahead of a middle one", 29, 2, 4, lists{2: {3, 29, 4, 5, 6}}},
		{"ahead of another middle one", 29, 2, 5, lists{2: {3, 4, 29, 5, 6}}},
		{"ahead of the last", 29, 2, 6, lists{2: {3, 4, 5, 29, 6}}},
		{"ahead of the only one", 29, 6, 7, lists{6: {29, 7}}},
		{"behind the only one", 29, 6, 0, lists{6: {7, 29}}},
		{"as the only one", 29, 7, 0, lists{7: {29}}},
		{"to one alone", 29, 15, 0, lists{15: {29}}},
		{"with children", 11, 2, 5, lists{2: {3, 4, 11, 5, 6}}},
		{"to a document", 29, 30, 0, lists{30: {29}}},
		{"to a shadow root", 29, 8, 9, lists{8: {29, 9}}},
		{"into a shadow tree", 29, 9, 0, lists{9: {10, 29}}},
		{"to a host", 29, 4, 0, lists{4: {29}}},
		{"to a fragment", 29, 19, 23, lists{19: {20, 21, 29, 23}}},
		{"to an empty fragment", 29, 16, 0, lists{16: {29}}},
		{"to a fragment that has a parent", 29, 25, 26, lists{25: {29, 26, 27}}},
		{"ahead of a fragment", 29, 24, 25, lists{24: {29, 25, 28}}},
	})
}

func TestANodeWithAnotherParent(t *testing.T) {
	expectMoves(t, []move{
		{"behind all", 12, 2, 0, lists{2: {3, 4, 5, 6, 12}, 11: {14}}},
		{"ahead of the first", 12, 2, 3, lists{2: {12, 3, 4, 5, 6}, 11: {14}}},
		{"ahead of a middle one", 12, 2, 5, lists{2: {3, 4, 12, 5, 6}, 11: {14}}},
		{"ahead of the last", 12, 2, 6, lists{2: {3, 4, 5, 12, 6}, 11: {14}}},
		{"the last", 14, 2, 5, lists{2: {3, 4, 14, 5, 6}, 11: {12}}},
		{"the first", 3, 11, 14, lists{2: {4, 5, 6}, 11: {12, 3, 14}}},
		{"a middle one", 5, 11, 12, lists{2: {3, 4, 6}, 11: {5, 12, 14}}},
		{"the only one", 13, 2, 4, lists{2: {3, 13, 4, 5, 6}, 12: nil}},
		{"the only one, as the only one", 13, 15, 0, lists{12: nil, 15: {13}}},
		{"upwards, ahead of its parent", 7, 2, 6, lists{2: {3, 4, 5, 7, 6}, 6: nil}},
		{"upwards, behind its parent", 7, 2, 0, lists{2: {3, 4, 5, 6, 7}, 6: nil}},
		{"downwards", 3, 6, 7, lists{2: {4, 5, 6}, 6: {3, 7}}},
		{"downwards, to a leaf", 3, 7, 0, lists{2: {4, 5, 6}, 7: {3}}},
		{"the host", 4, 11, 14, lists{2: {3, 5, 6}, 11: {12, 4, 14}}},
		{"into the shadow tree beside it", 5, 9, 10, lists{2: {3, 4, 6}, 9: {5, 10}}},
		{"out of a shadow tree", 9, 2, 4, lists{2: {3, 9, 4, 5, 6}, 8: nil}},
		{"out of a shadow tree, to its host", 10, 4, 0, lists{4: {10}, 9: nil}},
		{"out of a fragment", 21, 2, 4, lists{2: {3, 21, 4, 5, 6}, 19: {20, 23}}},
		{"out of a fragment, to another one", 18, 19, 20, lists{17: nil, 19: {18, 20, 21, 23}}},
		{"from beside a fragment", 28, 25, 27, lists{24: {25}, 25: {26, 28, 27}}},
		{"a document's element to another one", 2, 30, 0, lists{1: nil, 30: {2}}},
	})
}

func TestANodeThatHasTheParentAlready(t *testing.T) {
	expectMoves(t, []move{
		{"the first, behind all", 3, 2, 0, lists{2: {4, 5, 6, 3}}},
		{"the first, ahead of the next", 3, 2, 4, nil},
		{"the first, ahead of a later one", 3, 2, 5, lists{2: {4, 3, 5, 6}}},
		{"the first, ahead of the last", 3, 2, 6, lists{2: {4, 5, 3, 6}}},
		{"the second, behind all", 4, 2, 0, lists{2: {3, 5, 6, 4}}},
		{"the second, ahead of the first", 4, 2, 3, lists{2: {4, 3, 5, 6}}},
		{"the second, ahead of the next", 4, 2, 5, nil},
		{"the second, ahead of the last", 4, 2, 6, lists{2: {3, 5, 4, 6}}},
		{"the third, behind all", 5, 2, 0, lists{2: {3, 4, 6, 5}}},
		{"the third, ahead of the first", 5, 2, 3, lists{2: {5, 3, 4, 6}}},
		{"the third, ahead of the second", 5, 2, 4, lists{2: {3, 5, 4, 6}}},
		{"the third, ahead of the next", 5, 2, 6, nil},
		{"the last, behind all", 6, 2, 0, nil},
		{"the last, ahead of the first", 6, 2, 3, lists{2: {6, 3, 4, 5}}},
		{"the last, ahead of the second", 6, 2, 4, lists{2: {3, 6, 4, 5}}},
		{"the last, ahead of the one ahead of it", 6, 2, 5, lists{2: {3, 4, 6, 5}}},
		{"the only one, behind all", 7, 6, 0, nil},
		{"of two, the first", 12, 11, 0, lists{11: {14, 12}}},
		{"of two, the last", 14, 11, 12, lists{11: {14, 12}}},
		{"beside a fragment", 28, 24, 25, lists{24: {28, 25}}},
		{"in a fragment", 23, 19, 21, lists{19: {20, 23, 21}}},
		{"in a shadow tree", 9, 8, 0, nil},
	})
}

func TestANodeAheadOfItself(t *testing.T) {
	expectMoves(t, []move{
		{"the first", 3, 2, 3, nil},
		{"the second", 4, 2, 4, nil},
		{"the third", 5, 2, 5, nil},
		{"the last", 6, 2, 6, nil},
		{"the only one", 7, 6, 7, nil},
		{"of two, the first", 12, 11, 12, nil},
		{"of two, the last", 14, 11, 14, nil},
		{"a shadow root's", 9, 8, 9, nil},
		{"a fragment's", 23, 19, 23, nil},
	})
}

func TestAFragment(t *testing.T) {
	expectMoves(t, []move{
		{"without children, behind all", 16, 2, 0, nil},
		{"without children, ahead of one", 16, 2, 4, nil},
		{"without children, to one without", 16, 15, 0, nil},
		{"with one, behind all", 17, 2, 0, lists{2: {3, 4, 5, 6, 18}, 17: nil}},
		{"with one, ahead of the first", 17, 2, 3, lists{2: {18, 3, 4, 5, 6}, 17: nil}},
		{"with one, ahead of a middle one", 17, 2, 5, lists{2: {3, 4, 18, 5, 6}, 17: nil}},
		{"with one, ahead of the last", 17, 2, 6, lists{2: {3, 4, 5, 18, 6}, 17: nil}},
		{"with one, as the only one", 17, 15, 0, lists{15: {18}, 17: nil}},
		{"with one, to a document", 17, 30, 0, lists{17: nil, 30: {18}}},
		{"with several, behind all", 19, 2, 0, lists{2: {3, 4, 5, 6, 20, 21, 23}, 19: nil}},
		{"with several, ahead of the first", 19, 2, 3, lists{2: {20, 21, 23, 3, 4, 5, 6}, 19: nil}},
		{"with several, ahead of a middle one", 19, 2, 4, lists{2: {3, 20, 21, 23, 4, 5, 6}, 19: nil}},
		{"with several, ahead of the last", 19, 2, 6, lists{2: {3, 4, 5, 20, 21, 23, 6}, 19: nil}},
		{"with several, as the only ones", 19, 15, 0, lists{15: {20, 21, 23}, 19: nil}},
		{"with several, to a shadow root", 19, 8, 9, lists{8: {20, 21, 23, 9}, 19: nil}},
		{"with several, to an empty fragment", 19, 16, 0, lists{16: {20, 21, 23}, 19: nil}},
		{"with several, to a fragment", 19, 17, 18, lists{17: {20, 21, 23, 18}, 19: nil}},
	})
}

func TestAFragmentThatHasAParentStaysThere(t *testing.T) {
	expectMoves(t, []move{
		{"another one, behind all", 25, 2, 0, lists{2: {3, 4, 5, 6, 26, 27}, 25: nil}},
		{"another one, ahead of a child", 25, 2, 4, lists{2: {3, 26, 27, 4, 5, 6}, 25: nil}},
		{"another one, as the only ones", 25, 29, 0, lists{25: nil, 29: {26, 27}}},
		{"another one, below the parent", 25, 28, 0, lists{25: nil, 28: {26, 27}}},
		{"parent itself, behind all", 25, 24, 0, lists{24: {25, 28, 26, 27}, 25: nil}},
		{"parent itself, ahead of the next", 25, 24, 28, lists{24: {25, 26, 27, 28}, 25: nil}},
		{"parent itself, ahead of itself", 25, 24, 25, lists{24: {25, 26, 27, 28}, 25: nil}},
	})
}

func TestAFragmentThatIsTheLastChild(t *testing.T) {
	for _, x := range []struct {
		child int
		want  []int
	}{
		{0, []int{28, 25, 26, 27}},
		{25, []int{28, 25, 26, 27}},
		{28, []int{26, 27, 28, 25}},
	} {
		f := house(t)
		put(t, f, 24, 28, 25)
		before := f.All()
		expectOK(t, Before(f, 25, 24, x.child))
		expectLists(t, f, before, lists{24: x.want, 25: nil})
	}
}

func TestAFragmentWithoutChildrenThatHasTheParentAlready(t *testing.T) {
	for _, child := range []int{0, 25, 28} {
		f := house(t)
		put(t, f, 25)
		before := f.All()
		expectOK(t, Before(f, 25, 24, child))
		expectLists(t, f, before, nil)
	}
}

// TestAFragmentsFragment has a fragment among another one's children: it is put as they are, with its own.
func TestAFragmentsFragment(t *testing.T) {
	f := house(t)
	put(t, f, 17, 18, 19)
	before := f.All()
	expectOK(t, Before(f, 17, 2, 5))
	expectLists(t, f, before, lists{2: {3, 4, 18, 19, 5, 6}, 17: nil})
	before = f.All()
	expectOK(t, Before(f, 19, 2, 19))
	expectLists(t, f, before, lists{2: {3, 4, 18, 19, 20, 21, 23, 5, 6}, 19: nil})
}

func TestAFragmentIsPutAgain(t *testing.T) {
	f := house(t)
	before := f.All()
	expectOK(t, Before(f, 19, 2, 4))
	expectOK(t, Before(f, 19, 2, 4))
	expectLists(t, f, before, lists{2: {3, 20, 21, 23, 4, 5, 6}, 19: nil})
	expectOK(t, Before(f, 29, 19, 0))
	expectOK(t, Before(f, 19, 2, 20))
	expectLists(t, f, before, lists{2: {3, 29, 20, 21, 23, 4, 5, 6}, 19: nil})
}

func TestAppendIsBeforeWithNoChild(t *testing.T) {
	for node := -1; node <= 31; node++ {
		for parent := -1; parent <= 31; parent++ {
			f, g := house(t), house(t)
			if got, want := Append(f, node, parent), Before(g, node, parent, 0); got != want {
				t.Fatalf("Append(%d, %d) = %d, not %d", node, parent, int(got), int(want))
			}
			if told(f) != told(g) {
				t.Fatalf("Append(%d, %d) doesn't do what Before does", node, parent)
			}
		}
	}
}

func TestAppend(t *testing.T) {
	for _, x := range []struct {
		what         string
		node, parent int
		want         lists
	}{
		{"no parent", 29, 2, lists{2: {3, 4, 5, 6, 29}}},
		{"another parent", 14, 2, lists{2: {3, 4, 5, 6, 14}, 11: {12}}},
		{"the same parent", 3, 2, lists{2: {4, 5, 6, 3}}},
		{"the last one", 6, 2, nil},
		{"no children yet", 29, 15, lists{15: {29}}},
		{"a fragment", 19, 2, lists{2: {3, 4, 5, 6, 20, 21, 23}, 19: nil}},
		{"an empty fragment", 16, 2, nil},
		{"a fragment of the same parent", 25, 24, lists{24: {25, 28, 26, 27}, 25: nil}},
	} {
		t.Run(x.what, func(t *testing.T) {
			f := house(t)
			before := f.All()
			expectOK(t, Append(f, x.node, x.parent))
			expectLists(t, f, before, x.want)
		})
	}
}

// P7.1: what isn't put

func TestWhatIsNotPutChangesNothing(t *testing.T) {
	for _, x := range []struct {
		what                string
		node, parent, child int
		want                api.Errno
	}{
		{"no node", 31, 2, 3, arg},
		{"no node, 0", 0, 2, 3, arg},
		{"no node, and no child", 0, 2, 0, arg},
		{"no parent", 29, 31, 3, arg},
		{"no parent, 0", 29, 0, 0, arg},
		{"no child", 29, 2, 31, arg},
		{"no child, and node above parent", 2, 7, 31, arg},
		{"a document, and no child", 30, 2, 31, arg},

		{"node is parent", 2, 2, 0, hierarchy},
		{"node is parent, ahead of a child", 2, 2, 3, hierarchy},
		{"node is parent and child", 2, 2, 2, hierarchy},
		{"node is parent, alone", 29, 29, 0, hierarchy},
		{"node is parent, a fragment", 19, 19, 21, hierarchy},
		{"node above parent", 2, 6, 7, hierarchy},
		{"node further above parent", 2, 7, 0, hierarchy},
		{"node is the root of parent", 11, 13, 0, hierarchy},
		{"a fragment above parent", 19, 22, 0, hierarchy},
		{"a fragment above parent, with a parent", 25, 27, 0, hierarchy},
		{"node is the host of parent", 4, 8, 9, hierarchy},
		{"node is the host of parent's root", 4, 10, 0, hierarchy},
		{"node above the host of parent's root", 2, 9, 10, hierarchy},
		{"node above parent, and child elsewhere", 2, 6, 29, hierarchy},

		{"child elsewhere", 29, 2, 7, notFound},
		{"child elsewhere, a parent's child", 29, 2, 12, notFound},
		{"child without a parent", 29, 2, 15, notFound},
		{"child is parent", 29, 2, 2, notFound},
		{"child is parent's parent", 29, 2, 1, notFound},
		{"child is parent's shadow root", 29, 4, 8, notFound},
		{"child is node, with another parent", 12, 2, 12, notFound},
		{"child is node, without a parent", 29, 2, 29, notFound},
		{"child is the fragment that is put", 19, 2, 19, notFound},
		{"child is of the fragment that is put", 19, 2, 20, notFound},
		{"a document, and child elsewhere", 30, 2, 7, notFound},
		{"a shadow root, and child elsewhere", 8, 2, 7, notFound},
		{"too many elements, and child elsewhere", 29, 1, 7, notFound},

		{"a document", 30, 2, 3, hierarchy},
		{"a document, behind all", 30, 2, 0, hierarchy},
		{"a document, to a document", 30, 1, 0, hierarchy},
		{"a shadow root", 8, 11, 12, hierarchy},
		{"a shadow root, to its host", 8, 4, 0, hierarchy},
		{"a second element", 29, 1, 0, hierarchy},
		{"a second element, ahead of the first", 29, 1, 2, hierarchy},
		{"a second element, out of another list", 12, 1, 2, hierarchy},
		{"a second element, from below", 7, 1, 0, hierarchy},
		{"a document's element again", 2, 1, 0, hierarchy},
		{"a document's element ahead of itself", 2, 1, 2, hierarchy},
		{"a second element in a fragment", 17, 1, 2, hierarchy},
		{"two elements in a fragment", 25, 30, 0, hierarchy},
		{"three elements in a fragment", 19, 30, 0, hierarchy},
		{"three elements more in a fragment", 19, 1, 0, hierarchy},
	} {
		t.Run(x.what, func(t *testing.T) {
			f := house(t)
			before := told(f)
			expectBefore(t, f, x.node, x.parent, x.child, x.want)
			expectUnchanged(t, f, before)
			if x.child == 0 {
				expectErrno(t, "Append", Append(f, x.node, x.parent), x.want)
				expectUnchanged(t, f, before)
			}
		})
	}
}

func TestNumbersOfNoNode(t *testing.T) {
	f := house(t)
	before := told(f)
	for _, id := range strays {
		expectBefore(t, f, id, 2, 3, arg)
		expectBefore(t, f, 29, id, 3, arg)
		expectBefore(t, f, 29, id, 0, arg)
		expectBefore(t, f, 29, 2, id, arg)
		expectBefore(t, f, id, id, id, arg)
		expectBefore(t, f, id, 2, id, arg)
		expectErrno(t, "Append", Append(f, id, 2), arg)
		expectErrno(t, "Append", Append(f, 29, id), arg)
		expectErrno(t, "Append", Append(f, id, id), arg)
	}
	expectErrno(t, "Append", Append(f, 0, 2), arg)
	expectErrno(t, "Append", Append(f, 29, 0), arg)
	expectErrno(t, "Append", Append(f, 0, 0), arg)
	expectUnchanged(t, f, before)
}

// P7.2

func TestRemove(t *testing.T) {
	for _, x := range []struct {
		what         string
		node, parent int
		want         lists
	}{
		{"the first", 3, 2, lists{2: {4, 5, 6}}},
		{"the second, a host", 4, 2, lists{2: {3, 5, 6}}},
		{"the third", 5, 2, lists{2: {3, 4, 6}}},
		{"the last, with a child", 6, 2, lists{2: {3, 4, 5}}},
		{"the only one", 7, 6, lists{6: nil}},
		{"of two, the first", 12, 11, lists{11: {14}}},
		{"of two, the last", 14, 11, lists{11: {12}}},
		{"a document's", 2, 1, lists{1: nil}},
		{"a shadow root's", 9, 8, lists{8: nil}},
		{"within a shadow tree", 10, 9, lists{9: nil}},
		{"a fragment's", 21, 19, lists{19: {20, 23}}},
		{"a fragment with its children", 25, 24, lists{24: {28}}},
	} {
		t.Run(x.what, func(t *testing.T) {
			f := house(t)
			before := f.All()
			expectOK(t, Remove(f, x.node, x.parent))
			expectLists(t, f, before, x.want)
			// It has no parent any more.
			expectErrno(t, "Remove", Remove(f, x.node, x.parent), notFound)
			expectLists(t, f, before, x.want)
		})
	}
}

func TestRemoveOfWhatIsNoChild(t *testing.T) {
	f := house(t)
	before := told(f)
	for _, x := range []struct {
		what         string
		node, parent int
	}{
		{"another parent", 12, 2},
		{"another parent without children", 12, 29},
		{"no parent", 29, 2},
		{"no parent, a root", 11, 2},
		{"its parent's parent", 7, 2},
		{"its root", 7, 1},
		{"its child", 2, 3},
		{"the child beside it", 3, 4},
		{"itself", 3, 3},
		{"itself, alone", 29, 29},
		{"a shadow root and its host", 8, 4},
		{"a host and its shadow root", 4, 8},
		{"a shadow root's child and the host", 9, 4},
		{"a document", 30, 1},
		{"a fragment without a parent", 19, 2},
		{"its fragment's parent", 26, 24},
	} {
		t.Run(x.what, func(t *testing.T) {
			expectErrno(t, "Remove", Remove(f, x.node, x.parent), notFound)
			expectUnchanged(t, f, before)
		})
	}
}

func TestRemoveOfWhatIsNotThere(t *testing.T) {
	f := house(t)
	before := told(f)
	for _, id := range append([]int{0, 31}, strays...) {
		// 3 has a parent, 29 has none: as such 0 would be its parent.
		for _, other := range []int{2, 3, 29} {
			expectErrno(t, "Remove", Remove(f, id, other), arg)
			expectErrno(t, "Remove", Remove(f, other, id), arg)
		}
		expectErrno(t, "Remove", Remove(f, id, id), arg)
	}
	expectUnchanged(t, f, before)
}

func TestClear(t *testing.T) {
	for _, x := range []struct {
		what   string
		parent int
	}{
		{"several", 2}, {"two", 11}, {"one", 6}, {"a document's", 1}, {"a shadow root's", 8}, {"within a shadow tree", 9},
		{"a fragment's", 19}, {"a fragment's that has a parent", 25}, {"a fragment among them", 24},
		{"none", 7}, {"none of a host", 4}, {"none of one alone", 29}, {"none of a fragment", 16}, {"none of a document", 30},
	} {
		t.Run(x.what, func(t *testing.T) {
			f := house(t)
			before := f.All()
			expectOK(t, Clear(f, x.parent))
			expectLists(t, f, before, lists{x.parent: nil})
			expectOK(t, Clear(f, x.parent))
			expectLists(t, f, before, lists{x.parent: nil})
		})
	}
}

func TestClearOfWhatIsNotThere(t *testing.T) {
	f := house(t)
	before := told(f)
	for _, id := range append([]int{0, 31}, strays...) {
		expectErrno(t, "Clear", Clear(f, id), arg)
	}
	expectUnchanged(t, f, before)
}

// All of it

func TestWhatLeftMayBePutAgain(t *testing.T) {
	f := house(t)
	before := told(f)
	for id := 1; id <= f.Len(); id++ {
		n, _ := f.Node(id)
		if n.Parent == 0 || n.Kind == fragment {
			continue
		}
		next := kin.Next(f, id)
		expectOK(t, Remove(f, id, n.Parent))
		expectOK(t, Before(f, id, n.Parent, next))
		expectUnchanged(t, f, before)
	}
	for _, parent := range []int{2, 11, 8, 19} {
		n, _ := f.Node(parent)
		expectOK(t, Clear(f, parent))
		for _, kid := range n.Kids {
			expectOK(t, Append(f, kid, parent))
		}
		expectUnchanged(t, f, before)
	}
}

// TestAWayRound has nodes change places, so that what was above is below: each is allowed once it is no ancestor any more.
func TestAWayRound(t *testing.T) {
	f := grow(t, element, element, element)
	before := f.All()
	expectOK(t, Append(f, 2, 1))
	expectOK(t, Append(f, 3, 2))
	expectBefore(t, f, 1, 3, 0, hierarchy)
	expectOK(t, Remove(f, 3, 2))
	expectOK(t, Append(f, 1, 3))
	expectBefore(t, f, 3, 2, 0, hierarchy)
	expectLists(t, f, before, lists{3: {1}, 1: {2}})
	expectOK(t, Clear(f, 3))
	expectOK(t, Append(f, 3, 2))
	expectLists(t, f, before, lists{1: {2}, 2: {3}})
}

func TestARowOfAllNodes(t *testing.T) {
	f := grow(t, element)
	row := sow(t, f, slices.Repeat([]int{element}, api.MaxNodes-1))
	before := f.All()
	for _, id := range row {
		expectOK(t, Append(f, id, 1))
	}
	expectLists(t, f, before, lists{1: row})
	// Each goes ahead of the first: the row is turned round.
	for _, id := range row {
		n, _ := f.Node(1)
		expectOK(t, Before(f, id, 1, n.Kids[0]))
	}
	slices.Reverse(row)
	expectLists(t, f, before, lists{1: row})
	expectOK(t, Remove(f, 64, 1))
	row = slices.DeleteFunc(row, func(id int) bool { return id == 64 })
	expectLists(t, f, before, lists{1: row})
	expectOK(t, Clear(f, 1))
	expectLists(t, f, before, nil)
}

func TestAFragmentOfAllNodes(t *testing.T) {
	f := grow(t, fragment, element)
	row := sow(t, f, slices.Repeat([]int{element}, api.MaxNodes-2))
	put(t, f, 1, row...)
	before := f.All()
	expectOK(t, Append(f, 1, 2))
	expectLists(t, f, before, lists{1: nil, 2: row})
}

func TestAChainOfAllNodes(t *testing.T) {
	f := grow(t, slices.Repeat([]int{element}, api.MaxNodes)...)
	before := f.All()
	want := lists{}
	for id := 2; id <= api.MaxNodes; id++ {
		expectOK(t, Append(f, id, id-1))
		want[id-1] = []int{id}
	}
	expectLists(t, f, before, want)
	expectBefore(t, f, 1, api.MaxNodes, 0, hierarchy)
	expectOK(t, Before(f, api.MaxNodes, 1, 2))
	want[1], want[api.MaxNodes-1] = []int{api.MaxNodes, 2}, nil
	expectLists(t, f, before, want)
}

func TestNilAndZeroForests(t *testing.T) {
	for _, f := range []*arena.Forest{nil, {}, arena.New()} {
		for _, id := range append([]int{0, 1, 2}, strays...) {
			expectBefore(t, f, id, 1, 0, arg)
			expectBefore(t, f, 1, id, 2, arg)
			expectBefore(t, f, id, id, id, arg)
			expectErrno(t, "Append", Append(f, id, 1), arg)
			expectErrno(t, "Append", Append(f, 1, id), arg)
			expectErrno(t, "Remove", Remove(f, id, 1), arg)
			expectErrno(t, "Remove", Remove(f, 1, id), arg)
			expectErrno(t, "Clear", Clear(f, id), arg)
		}
		if f.Len() != 0 {
			t.Fatal("there are nodes now")
		}
	}
}

func TestAZeroForestThatGotNodes(t *testing.T) {
	f := &arena.Forest{}
	sow(t, f, []int{element, element, fragment, element})
	before := f.All()
	expectOK(t, Append(f, 4, 3))
	expectOK(t, Append(f, 2, 1))
	expectOK(t, Before(f, 3, 1, 2))
	expectLists(t, f, before, lists{1: {4, 2}})
	expectOK(t, Remove(f, 4, 1))
	expectOK(t, Clear(f, 1))
	expectLists(t, f, before, nil)
}

func TestForestsAreApart(t *testing.T) {
	f, g := house(t), house(t)
	before := told(g)
	expectOK(t, Before(f, 29, 2, 4))
	expectOK(t, Before(f, 19, 2, 29))
	expectOK(t, Remove(f, 3, 2))
	expectOK(t, Clear(f, 11))
	expectUnchanged(t, g, before)
}

func TestWhatWasToldBeforeStays(t *testing.T) {
	f := house(t)
	n, _ := f.Node(2)
	g, _ := f.Node(19)
	expectOK(t, Before(f, 19, 2, 3))
	expectOK(t, Remove(f, 4, 2))
	expectOK(t, Before(f, 6, 2, 5))
	if !slices.Equal(n.Kids, []int{3, 4, 5, 6}) || !slices.Equal(g.Kids, []int{20, 21, 23}) {
		t.Fatal("lists that were told ahead are changed", n.Kids, g.Kids)
	}
}

func TestJoined(t *testing.T) {
	if l := joined[int](); len(l) != 0 {
		t.Fatal(l)
	}
	if l := joined([]string{"a"}, nil, []string{}, []string{"b", "c"}); !slices.Equal(l, []string{"a", "b", "c"}) {
		t.Fatal(l)
	}
	// What lies behind a piece's length stays, and the answer is new memory.
	all := []int{1, 2, 3, 4}
	l := joined(all[:1], all[2:3])
	l[0] = 9
	if !slices.Equal(l, []int{9, 3}) || !slices.Equal(all, []int{1, 2, 3, 4}) {
		t.Fatal(l, all)
	}
}

// grow gives a forest of nodes of these kinds.
func grow(t *testing.T, kinds ...int) *arena.Forest {
	t.Helper()
	f := arena.New()
	sow(t, f, kinds)
	return f
}

// sow adds nodes of these kinds, and gives their numbers; the ninth, if it is an element, is a slot.
func sow(t *testing.T, f *arena.Forest, kinds []int) []int {
	t.Helper()
	var ids []int
	for _, kind := range kinds {
		n := api.Node{Kind: kind}
		if kind == shadow {
			n.Mode = api.Closed
		}
		n.Slot = kind == element && f.Len() == 8
		id, e := f.Make(n)
		expectOK(t, e)
		ids = append(ids, id)
	}
	return ids
}

func put(t *testing.T, f *arena.Forest, parent int, kids ...int) {
	t.Helper()
	if e := f.Put(parent, kids...); e != api.OK {
		t.Fatalf("Put(%d, %v): %v", parent, kids, e)
	}
}

// told gives a text of all that a forest tells.
func told(f *arena.Forest) string { return fmt.Sprintf("%+v", f.All()) }

func expectUnchanged(t *testing.T, f *arena.Forest, before string) {
	t.Helper()
	if told(f) != before {
		t.Fatalf("the forest is changed:\n%s\n%s", before, told(f))
	}
}

// expectLists holds P7.3: these parents have these children now, all others those that they had; each child's parent is the one that has it; and all else is as it was.
func expectLists(t *testing.T, f *arena.Forest, before []api.Node, want lists) {
	t.Helper()
	all := slices.Clone(before)
	for i := range all {
		all[i].Parent = 0
		if kids, changed := want[i+1]; changed {
			all[i].Kids = kids
		}
	}
	for i := range all {
		for _, kid := range all[i].Kids {
			all[kid-1].Parent = i + 1
		}
	}
	if got := fmt.Sprintf("%+v", all); got != told(f) {
		t.Fatalf("the forest is\n%s, not\n%s", told(f), got)
	}
}

func expectOK(t *testing.T, e api.Errno) {
	t.Helper()
	if e != api.OK {
		t.Fatal(e)
	}
}

func expectErrno(t *testing.T, what string, got, want api.Errno) {
	t.Helper()
	if got != want {
		t.Fatalf("%s: %d, not %d", what, int(got), int(want))
	}
}

func expectBefore(t *testing.T, f *arena.Forest, node, parent, child int, want api.Errno) {
	t.Helper()
	if got := Before(f, node, parent, child); got != want {
		t.Fatalf("Before(%d, %d, %d) = %d, not %d", node, parent, child, int(got), int(want))
	}
}
