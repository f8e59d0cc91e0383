package slot

import (
	"fmt"
	"math"
	"slices"
	"testing"

	"towncrier/api"
	"towncrier/arena"
)

var (
	document = api.Node{Kind: api.Document}
	element  = api.Node{Kind: api.Element}
	opened   = api.Node{Kind: api.Shadow, Mode: api.Open}
	closed   = api.Node{Kind: api.Shadow, Mode: api.Closed}
	fragment = api.Node{Kind: api.Fragment}
)

const ok = api.OK

// strays are numbers of which no forest has a node.
var strays = []int{0, -1, -2, -128, 129, 1 << 31, 1 << 32, 1<<32 + 1, math.MaxInt, math.MinInt, math.MinInt + 1}

// wants gives an element that wants a slot of that name.
func wants(name string) api.Node { return api.Node{Kind: api.Element, Want: name} }

// named gives a slot of that name.
func named(name string) api.Node { return api.Node{Kind: api.Element, Slot: true, Name: name} }

// both gives a slot of that name that wants another one itself.
func both(name, want string) api.Node {
	return api.Node{Kind: api.Element, Slot: true, Name: name, Want: want}
}

// house gives the forest that most tests look at:
//
//	10 (4 (7 (12, 2 wants a, 15 wants b, 39 wants e, 6 (16), 9 wants a, 14 is a, 53 wants f, 1 (3 wants a)), 20 is "" (21)))
//	    5 (11 (23 is a (17)), 8 is "" (18, 19, 22), 13 is a (24), 25 is c (26, 27 (52 is f), 28 is a (29)), 30 (32 is e wants x, 33 wants x, 34 is d wants x (35))),
//	      the closed shadow tree of 7
//	        31 (40 is a, 41 (36 is x wants y (37), 45), 38 is ""), the open shadow tree of 30
//	            42 (43 is y (44)), the closed shadow tree of 41
//	46 (47 is "" (48, 51, 49 is a (50))), an open shadow tree without a host
//	54
//	55
//
// What is something is a slot of that name. 10 and 55 are documents, 6, 19, 27 and 51 are fragments, the others are elements. The numbers don't tell the order.
func house(t *testing.T) *arena.Forest {
	t.Helper()
	f := grow(t,
		element, wants("a"), wants("a"), element, closed, fragment, element, named(""), wants("a"), document,
		element, element, named("a"), named("a"), wants("b"), element, element, element, fragment, named(""),
		element, element, named("a"), element, named("c"), element, fragment, named("a"), element, element,
		opened, both("e", "x"), wants("x"), both("d", "x"), element, both("x", "y"), element, named(""), wants("e"), named("a"),
		element, closed, named("y"), element, element, opened, named(""), element, named("a"), element,
		fragment, named("f"), wants("f"), element, document)
	for _, row := range [][]int{
		{10, 4}, {4, 7, 20}, {7, 12, 2, 15, 39, 6, 9, 14, 53, 1}, {6, 16}, {1, 3}, {20, 21},
		{5, 11, 8, 13, 25, 30}, {11, 23}, {23, 17}, {8, 18, 19, 22}, {13, 24}, {25, 26, 27, 28}, {27, 52}, {28, 29}, {30, 32, 33, 34}, {34, 35},
		{31, 40, 41, 38}, {41, 36, 45}, {36, 37}, {42, 43}, {43, 44},
		{46, 47}, {47, 48, 51, 49}, {49, 50},
	} {
		put(t, f, row[0], row[1:]...)
	}
	tie(t, f, 7, 5)
	tie(t, f, 30, 31)
	tie(t, f, 41, 42)
	return f
}

func TestTheChaptersExample(t *testing.T) {
	f := grow(t, element, element, opened, named(""))
	put(t, f, 1, 2)
	tie(t, f, 1, 3)
	put(t, f, 3, 4)
	expectOf(t, f, 2, 4)
}

// P9.1: Of

func TestOfAll(t *testing.T) {
	f := house(t)
	before := told(f)
	want := map[int]int{12: 8, 2: 23, 39: 32, 9: 23, 14: 8, 53: 52, 1: 8, 32: 36, 33: 36, 34: 36, 36: 43}
	for id := -2; id <= f.Len()+3; id++ {
		expectOf(t, f, id, want[id])
	}
	expectUnchanged(t, f, before)
}

func TestOf(t *testing.T) {
	f := house(t)
	for _, x := range []struct {
		what     string
		id, want int
	}{
		{"wants nothing, and there is a slot without a name", 12, 8},
		{"the first of several is deeper, and has a greater number than the second", 2, 23},
		{"two may have one slot", 9, 23},
		{"a name that nobody has", 15, 0},
		{"a slot in the tree around the host isn't it", 45, 0},
		{"a slot may have a slot", 14, 8},
		{"a slot in a shadow tree may have one", 32, 36},
		{"a slot in a fragment in the shadow tree", 53, 52},
		{"its parent has no shadow root", 3, 0},
		{"its parent is a fragment below the host", 16, 0},
		{"a fragment below the host", 6, 0},
		{"a child of a slot in no shadow tree", 21, 0},
		{"a child of a slot in a shadow tree", 18, 0},
		{"a child of a shadow root", 38, 0},
		{"a host that has slots within", 7, 0},
		{"alone", 54, 0},
		{"a document", 10, 0},
		{"a document alone", 55, 0},
		{"a shadow root", 5, 0},
		{"a shadow root within a shadow tree", 31, 0},
		{"a shadow root without a host", 46, 0},
		{"in a shadow tree without a host", 48, 0},
	} {
		t.Run(x.what, func(t *testing.T) { expectOf(t, f, x.id, x.want) })
	}
}

func TestNamesAreHeldAgainstWants(t *testing.T) {
	names := []string{"", "a", "b", "aa", "ab", "0", "abcdefgh", "abcdefgi"}
	for _, root := range []api.Node{opened, closed} {
		for _, name := range names {
			for _, want := range names {
				f := grow(t, element, wants(want), root, named(name))
				put(t, f, 1, 2)
				tie(t, f, 1, 3)
				put(t, f, 3, 4)
				if name == want {
					expectOf(t, f, 2, 4)
					expectList(t, "Assigned", f, Assigned, 4, 2)
				} else {
					expectOf(t, f, 2, 0)
					expectList(t, "Assigned", f, Assigned, 4)
				}
			}
		}
	}
}

func TestAnElementThatIsNoSlotIsNobodysSlot(t *testing.T) {
	// What wants nothing doesn't take an element that has no name either.
	f := grow(t, element, element, opened, element, wants("a"))
	put(t, f, 1, 2)
	tie(t, f, 1, 3)
	put(t, f, 3, 4, 5)
	expectOf(t, f, 2, 0)
	// What a slot wants is no matter to who is shown in it.
	g := grow(t, element, wants("a"), opened, both("", "a"), both("a", ""))
	put(t, g, 1, 2)
	tie(t, g, 1, 3)
	put(t, g, 3, 4, 5)
	expectOf(t, g, 2, 5)
	// What a node is named is no matter to which slot it has.
	h := grow(t, element, both("a", "b"), opened, named("a"), named("b"))
	put(t, h, 1, 2)
	tie(t, h, 1, 3)
	put(t, h, 3, 4, 5)
	expectOf(t, h, 2, 5)
}

func TestTheFirstInTreeOrder(t *testing.T) {
	// The root 3 may have 4 (5), 6 and 7, all of one name but the element 4.
	f := grow(t, element, wants("a"), opened, element, named("a"), named("a"), named("a"))
	put(t, f, 1, 2)
	tie(t, f, 1, 3)
	for _, x := range []struct {
		kids []int
		want int
	}{
		{[]int{4, 6, 7}, 5}, {[]int{6, 4, 7}, 6}, {[]int{7, 6, 4}, 7}, {[]int{7, 4}, 7}, {[]int{4, 7}, 5}, {[]int{6}, 6}, {nil, 0},
	} {
		put(t, f, 4, 5)
		put(t, f, 3, x.kids...)
		expectOf(t, f, 2, x.want)
		for _, slot := range []int{5, 6, 7} {
			if slot == x.want {
				expectList(t, "Assigned", f, Assigned, slot, 2)
			} else {
				expectList(t, "Assigned", f, Assigned, slot)
			}
		}
	}
}

func TestASlotWithinASlotOfItsName(t *testing.T) {
	f := grow(t, element, wants("a"), closed, named("a"), named("a"), element)
	put(t, f, 1, 2)
	tie(t, f, 1, 3)
	put(t, f, 3, 5)
	put(t, f, 5, 4, 6)
	expectOf(t, f, 2, 5)
	expectList(t, "Slots", f, Slots, 3, 5, 4)
	expectList(t, "Flat", f, Flat, 5, 2)
	expectList(t, "Flat", f, Flat, 4)
}

func TestTheSlotIsInTheShadowTreeItself(t *testing.T) {
	// Slots of the name lie: among the host's children, around the host, in a shadow tree within the shadow tree, and in another host's one.
	f := grow(t, named("a"), element, wants("a"), named("a"), opened, element, opened, named("a"), element, closed, named("a"))
	put(t, f, 1, 2, 9)
	put(t, f, 2, 3, 4)
	tie(t, f, 2, 5)
	put(t, f, 5, 6)
	tie(t, f, 6, 7)
	put(t, f, 7, 8)
	tie(t, f, 9, 10)
	put(t, f, 10, 11)
	for id := 1; id <= f.Len(); id++ {
		expectOf(t, f, id, 0)
		expectList(t, "Assigned", f, Assigned, id)
	}
	// Once there is one in that tree, it is the slot.
	if id, e := f.Make(named("a")); id != 12 || e != ok {
		t.Fatal(id, e)
	}
	put(t, f, 5, 6, 12)
	expectOf(t, f, 3, 12)
	put(t, f, 5, 6)
	// As a child of the inner host it is in the outer tree, too; itself it wants nothing.
	put(t, f, 6, 12)
	expectOf(t, f, 3, 12)
	expectOf(t, f, 12, 0)
}

func TestHostsOfAllSorts(t *testing.T) {
	for _, host := range []api.Node{element, named(""), named("a"), wants("a"), both("a", "a")} {
		f := grow(t, document, host, wants("a"), closed, named("a"))
		put(t, f, 1, 2)
		put(t, f, 2, 3)
		tie(t, f, 2, 4)
		put(t, f, 4, 5)
		expectOf(t, f, 3, 5)
		expectOf(t, f, 2, 0)
		expectList(t, "Assigned", f, Assigned, 5, 3)
		expectList(t, "Assigned", f, Assigned, 2)
		expectList(t, "Flat", f, Flat, 5, 3)
		expectList(t, "Flat", f, Flat, 2)
	}
}

// P9.1: Assigned

func TestAssignedOfAll(t *testing.T) {
	f := house(t)
	before := told(f)
	want := map[int][]int{8: {12, 14, 1}, 23: {2, 9}, 32: {39}, 52: {53}, 36: {32, 33, 34}, 43: {36}}
	for id := -2; id <= f.Len()+3; id++ {
		expectList(t, "Assigned", f, Assigned, id, want[id]...)
	}
	expectUnchanged(t, f, before)
}

// A listed is a question of one node, and the list that is its answer.
type listed struct {
	what string
	id   int
	want []int
}

func TestAssigned(t *testing.T) {
	f := house(t)
	for _, x := range []listed{
		{"several, not in the order of their numbers", 8, []int{12, 14, 1}},
		{"several with others between them", 23, []int{2, 9}},
		{"one", 32, []int{39}},
		{"slots among them", 36, []int{32, 33, 34}},
		{"none wants that name", 25, nil},
		{"not the first one of its name", 13, nil},
		{"not the first one of its name, and deeper", 28, nil},
		{"in an inner tree, named as those around it", 40, nil},
		{"in no shadow tree, and a host's child", 14, nil},
		{"in no shadow tree, without a name", 20, nil},
		{"in a shadow tree without a host", 47, nil},
		{"in that, below another slot", 49, nil},
		{"an element in a shadow tree", 11, nil},
		{"a host", 7, nil},
		{"a host in a shadow tree", 30, nil},
		{"a child of a host", 12, nil},
		{"a closed shadow root", 5, nil},
		{"an open shadow root", 31, nil},
		{"a shadow root without a host", 46, nil},
		{"a document", 10, nil},
		{"a fragment", 27, nil},
		{"alone", 54, nil},
	} {
		t.Run(x.what, func(t *testing.T) { expectList(t, "Assigned", f, Assigned, x.id, x.want...) })
	}
}

func TestAssignedInTheOrderOfTheHostsChildren(t *testing.T) {
	f := grow(t, element, opened, named(""), element, element, element, fragment, wants("a"))
	tie(t, f, 1, 2)
	put(t, f, 2, 3)
	expectList(t, "Assigned", f, Assigned, 3)
	for _, kids := range [][]int{{4}, {4, 5, 6}, {6, 5, 4}, {5, 6, 4}, {6, 4}} {
		put(t, f, 1, kids...)
		expectList(t, "Assigned", f, Assigned, 3, kids...)
		expectList(t, "Flat", f, Flat, 3, kids...)
		// A fragment and what wants another one are left out.
		put(t, f, 1, slices.Concat([]int{7}, kids, []int{8})...)
		expectList(t, "Assigned", f, Assigned, 3, kids...)
	}
	put(t, f, 1, 7, 8)
	expectList(t, "Assigned", f, Assigned, 3)
	put(t, f, 1)
	expectList(t, "Assigned", f, Assigned, 3)
}

func TestAssignedGoesWithTheForest(t *testing.T) {
	f := grow(t, element, wants("a"), wants("b"), closed, named("a"), named("b"))
	put(t, f, 1, 3, 2)
	put(t, f, 4, 5, 6)
	// Without a host the Shadow is nobody's shadow root.
	expectOf(t, f, 2, 0)
	expectList(t, "Assigned", f, Assigned, 5)
	tie(t, f, 1, 4)
	expectOf(t, f, 2, 5)
	expectOf(t, f, 3, 6)
	rename(t, f.Want(2, "b"))
	expectList(t, "Assigned", f, Assigned, 5)
	expectList(t, "Assigned", f, Assigned, 6, 3, 2)
	rename(t, f.Name(5, "b"))
	expectList(t, "Assigned", f, Assigned, 5, 3, 2)
	expectList(t, "Assigned", f, Assigned, 6)
	put(t, f, 4, 6, 5)
	expectList(t, "Assigned", f, Assigned, 5)
	expectList(t, "Assigned", f, Assigned, 6, 3, 2)
	put(t, f, 1, 2)
	expectList(t, "Assigned", f, Assigned, 6, 2)
	expectOf(t, f, 3, 0)
	put(t, f, 4)
	expectOf(t, f, 2, 0)
	expectList(t, "Assigned", f, Assigned, 6)
}

// P9.1: Slots

func TestSlotsOfAll(t *testing.T) {
	f := house(t)
	before := told(f)
	want := map[int][]int{
		10: {14, 20}, 4: {14, 20}, 7: {14}, 14: {14}, 20: {20},
		5: {23, 8, 13, 25, 52, 28, 32, 34}, 11: {23}, 23: {23}, 8: {8}, 13: {13}, 25: {25, 52, 28}, 27: {52}, 52: {52}, 28: {28},
		30: {32, 34}, 32: {32}, 34: {34},
		31: {40, 36, 38}, 40: {40}, 41: {36}, 36: {36}, 38: {38}, 42: {43}, 43: {43},
		46: {47, 49}, 47: {47, 49}, 49: {49},
	}
	for id := -2; id <= f.Len()+3; id++ {
		expectList(t, "Slots", f, Slots, id, want[id]...)
	}
	expectUnchanged(t, f, before)
}

func TestSlots(t *testing.T) {
	f := house(t)
	for _, x := range []listed{
		{"a shadow tree, in tree order", 5, []int{23, 8, 13, 25, 52, 28, 32, 34}},
		{"a document's tree", 10, []int{14, 20}},
		{"a root that is itself one, alone", 8, []int{8}},
		{"a root that is itself one, with others below it", 25, []int{25, 52, 28}},
		{"a host: its shadow tree isn't below it", 30, []int{32, 34}},
		{"a fragment", 27, []int{52}},
		{"none below", 1, nil},
		{"none, a fragment", 6, nil},
		{"none, alone", 54, nil},
		{"a shadow tree without a host", 46, []int{47, 49}},
	} {
		t.Run(x.what, func(t *testing.T) { expectList(t, "Slots", f, Slots, x.id, x.want...) })
	}
}

func TestSlotsGoDownAheadOfGoingOn(t *testing.T) {
	f := grow(t, slices.Repeat([]api.Node{named("a")}, 6)...)
	put(t, f, 6, 3, 1)
	put(t, f, 3, 5, 2)
	put(t, f, 1, 4)
	expectList(t, "Slots", f, Slots, 6, 6, 3, 5, 2, 1, 4)
	expectList(t, "Slots", f, Slots, 3, 3, 5, 2)
	// A slot that is a host tells what is below it alone.
	if id, e := f.Make(opened); id != 7 || e != ok {
		t.Fatal(id, e)
	}
	tie(t, f, 2, 7)
	put(t, f, 3, 2)
	put(t, f, 7, 5)
	expectList(t, "Slots", f, Slots, 6, 6, 3, 2, 1, 4)
	expectList(t, "Slots", f, Slots, 7, 5)
}

// P9.2

func TestFlatOfAll(t *testing.T) {
	f := house(t)
	before := told(f)
	want := map[int][]int{
		8: {12, 14, 1}, 23: {2, 9}, 13: {24}, 25: {26, 29}, 28: {29}, 52: {53}, 32: {39}, 34: {35},
		36: {39, 33, 35}, 43: {39, 33, 35}, 47: {48, 50}, 49: {50},
	}
	for id := -2; id <= f.Len()+3; id++ {
		expectList(t, "Flat", f, Flat, id, want[id]...)
	}
	expectUnchanged(t, f, before)
}

func TestFlat(t *testing.T) {
	f := house(t)
	for _, x := range []listed{
		{"something assigned, and its children aren't told", 23, []int{2, 9}},
		{"a slot in no shadow tree is told as itself", 8, []int{12, 14, 1}},
		{"nothing assigned: its children", 13, []int{24}},
		{"nothing assigned: a slot among its children, and no fragment", 25, []int{26, 29}},
		{"nothing assigned, and no children", 38, nil},
		{"slots assigned: one with something assigned, one with children", 36, []int{39, 33, 35}},
		{"a slot assigned to which slots are assigned", 43, []int{39, 33, 35}},
		{"in a fragment in a shadow tree", 52, []int{53}},
		{"in a shadow tree without a host", 47, []int{48, 50}},
		{"in no shadow tree, a host's child", 14, nil},
		{"in no shadow tree, with a child", 20, nil},
		{"an element in a shadow tree, with a slot below it", 11, nil},
		{"a host", 7, nil},
		{"a shadow root", 5, nil},
		{"a shadow root without a host", 46, nil},
		{"a document", 10, nil},
		{"a fragment in a shadow tree", 27, nil},
		{"alone", 54, nil},
	} {
		t.Run(x.what, func(t *testing.T) { expectList(t, "Flat", f, Flat, x.id, x.want...) })
	}
}

func TestWhatIsAssignedWinsEvenIfItShowsNothing(t *testing.T) {
	// 6 is a slot in the tree of 2 that shows nothing; it is assigned to 8, whose child 9 isn't shown.
	f := grow(t, element, closed, element, opened, element, named("b"), element, named(""), element)
	tie(t, f, 1, 2)
	put(t, f, 2, 3)
	tie(t, f, 3, 4)
	put(t, f, 3, 6)
	put(t, f, 4, 8)
	put(t, f, 8, 9)
	expectList(t, "Assigned", f, Assigned, 8, 6)
	expectList(t, "Flat", f, Flat, 8)
	// With nothing assigned 9 is shown; with something in the slot that is assigned, that is.
	put(t, f, 3)
	expectList(t, "Flat", f, Flat, 8, 9)
	put(t, f, 3, 6)
	put(t, f, 6, 7)
	expectList(t, "Flat", f, Flat, 8, 7)
	rename(t, f.Name(6, ""))
	put(t, f, 1, 5)
	expectList(t, "Flat", f, Flat, 8, 5)
}

func TestChildrenThatAreNoElements(t *testing.T) {
	f := grow(t, closed, named(""), fragment, element, fragment, element, named("a"))
	put(t, f, 1, 2)
	put(t, f, 2, 3, 5)
	put(t, f, 3, 4)
	expectList(t, "Flat", f, Flat, 2)
	put(t, f, 2, 3, 6, 5)
	expectList(t, "Flat", f, Flat, 2, 6)
	// Children alone count, not what is below them, be it a slot.
	put(t, f, 6, 7)
	expectList(t, "Flat", f, Flat, 2, 6)
	put(t, f, 2, 5)
	expectList(t, "Flat", f, Flat, 2)
}

func TestChildrenThatWantSomethingOrAreHosts(t *testing.T) {
	// A child is shown whatever it wants, and what is in its shadow tree is no matter.
	f := grow(t, opened, named(""), wants("a"), element, closed, named(""), element)
	put(t, f, 1, 2)
	put(t, f, 2, 4, 3)
	put(t, f, 4, 7)
	tie(t, f, 4, 5)
	put(t, f, 5, 6)
	expectList(t, "Flat", f, Flat, 2, 4, 3)
	expectList(t, "Flat", f, Flat, 6, 7)
}

func TestSlotsAmongASlotsChildren(t *testing.T) {
	// 2 (3 (4 (5), 6), 7, 8) with 2, 3, 4 and 8 as slots.
	f := grow(t, opened, named("a"), named("b"), named("c"), element, element, element, named("d"), element, wants("c"), wants("a"), wants("d"))
	put(t, f, 1, 2)
	put(t, f, 2, 3, 7, 8)
	put(t, f, 3, 4, 6)
	put(t, f, 4, 5)
	expectList(t, "Flat", f, Flat, 2, 5, 6, 7)
	expectList(t, "Flat", f, Flat, 3, 5, 6)
	// With a host, what is assigned to a slot takes the place of that one's children alone.
	tie(t, f, 9, 1)
	put(t, f, 9, 12, 10)
	expectList(t, "Flat", f, Flat, 2, 10, 6, 7, 12)
	put(t, f, 9, 11, 10)
	expectList(t, "Flat", f, Flat, 2, 11)
	expectList(t, "Flat", f, Flat, 3, 10, 6)
	put(t, f, 9)
	expectList(t, "Flat", f, Flat, 2, 5, 6, 7)
}

func TestASlotWithAShadowRootOfItsOwn(t *testing.T) {
	// 2 is a slot in the tree of 1, and the host of 4: its child 3 is shown in both.
	f := grow(t, closed, named(""), element, opened, named(""), element)
	put(t, f, 1, 2)
	put(t, f, 2, 3)
	tie(t, f, 2, 4)
	put(t, f, 4, 5)
	put(t, f, 5, 6)
	expectOf(t, f, 3, 5)
	expectList(t, "Flat", f, Flat, 2, 3)
	expectList(t, "Flat", f, Flat, 5, 3)
	put(t, f, 2)
	expectList(t, "Flat", f, Flat, 2)
	expectList(t, "Flat", f, Flat, 5, 6)
}

func TestASlotWhoseRootIsNoShadow(t *testing.T) {
	// 3 is told as itself while its root is any node but a Shadow, and opened up when it is one.
	for _, root := range []api.Node{document, element, fragment, opened, closed} {
		f := grow(t, root, element, named("a"), element, closed, named(""))
		put(t, f, 1, 2)
		put(t, f, 2, 3)
		put(t, f, 3, 4)
		tie(t, f, 2, 5)
		put(t, f, 5, 6)
		expectOf(t, f, 3, 6)
		if root.Kind == api.Shadow {
			expectList(t, "Flat", f, Flat, 6, 4)
			expectList(t, "Flat", f, Flat, 3, 4)
		} else {
			expectList(t, "Flat", f, Flat, 6, 3)
			expectList(t, "Flat", f, Flat, 3)
		}
	}
}

func TestASlotThatIsARoot(t *testing.T) {
	f := grow(t, named(""), element, named("a"))
	put(t, f, 1, 2, 3)
	for id := 1; id <= 3; id++ {
		expectOf(t, f, id, 0)
		expectList(t, "Assigned", f, Assigned, id)
		expectList(t, "Flat", f, Flat, id)
	}
	expectList(t, "Slots", f, Slots, 1, 1, 3)
}

// The greatest forests

func TestAsManyTreesAsCanBe(t *testing.T) {
	// Of each three nodes the first is a host, the second its shadow root, the third its child; all but the first child are slots, each in the tree of the root ahead.
	const deep = api.MaxNodes / 3
	nodes := []api.Node{element, closed, element}
	for len(nodes) < 3*deep {
		nodes = append(nodes, element, opened, named(""))
	}
	f := grow(t, nodes...)
	for host := 1; host < 3*deep; host += 3 {
		put(t, f, host, host+2)
		tie(t, f, host, host+1)
		if host+3 < 3*deep {
			put(t, f, host+1, host+3)
		}
	}
	before := told(f)
	for child := 3; child < 3*deep; child += 3 {
		expectOf(t, f, child, child+3)
		expectList(t, "Assigned", f, Assigned, child+3, child)
		expectList(t, "Flat", f, Flat, child+3, 3)
	}
	expectUnchanged(t, f, before)
}

func TestSlotsAsDeepAsCanBe(t *testing.T) {
	nodes := append([]api.Node{opened}, slices.Repeat([]api.Node{named("a")}, api.MaxNodes-2)...)
	f := grow(t, append(nodes, element)...)
	for id := 1; id < api.MaxNodes; id++ {
		put(t, f, id, id+1)
	}
	for id := 2; id < api.MaxNodes; id++ {
		expectList(t, "Flat", f, Flat, id, api.MaxNodes)
		expectList(t, "Assigned", f, Assigned, id)
	}
	if l := Slots(f, 1); len(l) != api.MaxNodes-2 || l[0] != 2 || l[len(l)-1] != api.MaxNodes-1 {
		t.Errorf("Slots(1) = %v", l)
	}
}

func TestAsManyChildrenAsCanBe(t *testing.T) {
	f := grow(t, append([]api.Node{element, closed, named("")}, slices.Repeat([]api.Node{element}, api.MaxNodes-3)...)...)
	var kids []int
	for id := api.MaxNodes; id > 3; id-- {
		kids = append(kids, id)
	}
	put(t, f, 1, kids...)
	put(t, f, 2, 3)
	expectList(t, "Assigned", f, Assigned, 3)
	tie(t, f, 1, 2)
	expectList(t, "Assigned", f, Assigned, 3, kids...)
	expectList(t, "Flat", f, Flat, 3, kids...)
	// The same ones as the slot's own children.
	put(t, f, 1)
	put(t, f, 3, kids...)
	expectList(t, "Assigned", f, Assigned, 3)
	expectList(t, "Flat", f, Flat, 3, kids...)
}

// Wrong inputs

func TestNodesThatAreNotThere(t *testing.T) {
	full := grow(t, append([]api.Node{element, opened}, slices.Repeat([]api.Node{named("")}, api.MaxNodes-2)...)...)
	tie(t, full, 1, 2)
	put(t, full, 1, 128)
	put(t, full, 2, 3)
	for _, f := range []*arena.Forest{house(t), full} {
		before := told(f)
		for _, id := range append([]int{f.Len() + 1}, strays...) {
			expectNothing(t, f, id)
		}
		expectUnchanged(t, f, before)
	}
}

func TestNilAndZeroForests(t *testing.T) {
	var zero arena.Forest
	for _, f := range []*arena.Forest{nil, &zero, arena.New()} {
		for _, id := range append([]int{1, 2, 3, 127, 128}, strays...) {
			expectNothing(t, f, id)
		}
		if f.Len() != 0 {
			t.Error("asking made a node")
		}
	}
}

func TestAZeroForestThatGotNodes(t *testing.T) {
	var f arena.Forest
	for _, n := range []api.Node{element, wants("a"), closed, named("a")} {
		if _, e := f.Make(n); e != ok {
			t.Fatal(e)
		}
	}
	put(t, &f, 1, 2)
	tie(t, &f, 1, 3)
	put(t, &f, 3, 4)
	expectOf(t, &f, 2, 4)
	expectList(t, "Assigned", &f, Assigned, 4, 2)
	expectList(t, "Slots", &f, Slots, 3, 4)
	expectList(t, "Flat", &f, Flat, 4, 2)
}

// R4 and R6

func TestWhatIsToldMayBeWrittenOver(t *testing.T) {
	f := house(t)
	before := told(f)
	for what, ask := range map[string]func(*arena.Forest, int) []int{"Assigned": Assigned, "Slots": Slots, "Flat": Flat} {
		for id := 1; id <= f.Len(); id++ {
			first, second := ask(f, id), ask(f, id)
			kept := slices.Clone(second)
			for i := range first {
				first[i] = -9
			}
			_ = append(first, 91, 92)
			_ = append(first[:0], 93)
			if !slices.Equal(second, kept) {
				t.Fatalf("%s(%d): answers share memory", what, id)
			}
			expectList(t, what, f, ask, id, kept...)
		}
	}
	expectUnchanged(t, f, before)
}

func TestTheSameIsToldAgain(t *testing.T) {
	f := house(t)
	answers := func() string {
		var l []string
		for id := -1; id <= f.Len()+1; id++ {
			l = append(l, fmt.Sprint(Of(f, id), Assigned(f, id), Slots(f, id), Flat(f, id)))
		}
		return fmt.Sprint(l)
	}
	before, first := told(f), answers()
	if answers() != first {
		t.Error("the second time something else is told")
	}
	expectUnchanged(t, f, before)
}

func TestForestsAreApart(t *testing.T) {
	f, g := house(t), grow(t, element, wants("a"), closed, named("a"))
	put(t, g, 1, 2)
	tie(t, g, 1, 3)
	put(t, g, 3, 4)
	expectOf(t, g, 2, 4)
	expectOf(t, f, 2, 23)
	expectList(t, "Flat", g, Flat, 4, 2)
	expectList(t, "Flat", f, Flat, 23, 2, 9)
	expectList(t, "Slots", g, Slots, 3, 4)
	expectList(t, "Slots", f, Slots, 3)
}

// grow gives a forest of these nodes.
func grow(t *testing.T, nodes ...api.Node) *arena.Forest {
	t.Helper()
	f := arena.New()
	for i, n := range nodes {
		if id, e := f.Make(n); id != i+1 || e != ok {
			t.Fatal(id, e)
		}
	}
	return f
}

func put(t *testing.T, f *arena.Forest, parent int, kids ...int) {
	t.Helper()
	if e := f.Put(parent, kids...); e != ok {
		t.Fatalf("Put(%d, %v): %v", parent, kids, e)
	}
}

func tie(t *testing.T, f *arena.Forest, host, root int) {
	t.Helper()
	if e := f.Tie(host, root); e != ok {
		t.Fatalf("Tie(%d, %d): %v", host, root, e)
	}
}

func rename(t *testing.T, e api.Errno) {
	t.Helper()
	if e != ok {
		t.Fatal(e)
	}
}

// told gives a text of all that a forest tells.
func told(f *arena.Forest) string { return fmt.Sprintf("%+v", f.All()) }

func expectUnchanged(t *testing.T, f *arena.Forest, before string) {
	t.Helper()
	if told(f) != before {
		t.Fatal("asking changed the forest")
	}
}

// expectNothing looks at all that is told of a node that isn't there.
func expectNothing(t *testing.T, f *arena.Forest, id int) {
	t.Helper()
	expectOf(t, f, id, 0)
	expectList(t, "Assigned", f, Assigned, id)
	expectList(t, "Slots", f, Slots, id)
	expectList(t, "Flat", f, Flat, id)
}

func expectOf(t *testing.T, f *arena.Forest, id, want int) {
	t.Helper()
	if got := Of(f, id); got != want {
		t.Fatalf("Of(%d) = %d, not %d", id, got, want)
	}
}

func expectList(t *testing.T, what string, f *arena.Forest, ask func(*arena.Forest, int) []int, id int, want ...int) {
	t.Helper()
	if got := ask(f, id); !slices.Equal(got, want) {
		t.Fatalf("%s(%d) = %v, not %v", what, id, got, want)
	}
}
