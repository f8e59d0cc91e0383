package path

import (
	"fmt"
	"math"
	"slices"
	"strconv"
	"strings"
	"testing"

	"towncrier/api"
	"towncrier/arena"
	"towncrier/kin"
	"towncrier/shade"
)

var (
	document = api.Node{Kind: api.Document}
	element  = api.Node{Kind: api.Element}
	opened   = api.Node{Kind: api.Shadow, Mode: api.Open}
	closed   = api.Node{Kind: api.Shadow, Mode: api.Closed}
	fragment = api.Node{Kind: api.Fragment}
)

// wants is an element that wants the slot of that name.
func wants(want string) api.Node { return api.Node{Kind: api.Element, Want: want} }

// both is a slot with that name that wants another one.
func both(name, want string) api.Node {
	return api.Node{Kind: api.Element, Slot: true, Name: name, Want: want}
}

const ok = api.OK

// strays are numbers of which no forest has a node.
var strays = []int{0, -1, -2, -128, 129, 1 << 31, 1 << 32, 1<<32 + 1, math.MaxInt, math.MinInt, math.MinInt + 1}

// house gives the forest that most tests look at; behind a node that has a slot, that is told:
//
//	9 (20 (3 (5>2, 8>11, 21), 14 (10>16, 23>4, 24, 12 (26)), 27 (28 (29))))
//	    17 (7 (2, 22), 11), the open shadow tree of 3
//	    6 (19 (16>32, 4>33, 51)), the closed shadow tree of 14
//	        13 (30 (32>34), 33), the open shadow tree of 19
//	            31 (34 (50), 35), the closed shadow tree of 30
//	15 (18 (36>37)), a closed shadow tree without a host
//	    25 (37), the open shadow tree of 18
//	1 (38 (41>40)), an open shadow tree without a host
//	    39 (40), the closed shadow tree of 38
//	42 (43 (46>45))
//	    44 (45), the closed shadow tree of 43
//	47
//	48
//	49, a closed shadow root without a host
//
// 9 and 48 are documents, 12 and 42 are fragments, the others are elements; 2, 22, 11, 16, 4, 28, 32, 33, 34, 37, 40 and 45 are slots. The numbers don't tell who is above whom.
func house(t *testing.T) *arena.Forest {
	t.Helper()
	f := grow(t,
		opened, both("", ""), element, both("a", ""), element, closed, element, wants("a"), document, element,
		both("a", ""), fragment, opened, element, closed, both("", "a"), opened, element, element, element,
		wants("no"), both("", ""), wants("a"), wants("no"), opened, element, element, both("", ""), element, element,
		closed, both("a", ""), both("", ""), both("", ""), element, element, both("", ""), element, closed, both("", ""),
		element, fragment, element, closed, both("", ""), element, element, document, closed, element,
		wants("no"))
	put(t, f, 9, 20)
	put(t, f, 20, 3, 14, 27)
	put(t, f, 3, 5, 8, 21)
	put(t, f, 14, 10, 23, 24, 12)
	put(t, f, 12, 26)
	put(t, f, 27, 28)
	put(t, f, 28, 29)
	put(t, f, 17, 7, 11)
	put(t, f, 7, 2, 22)
	put(t, f, 6, 19)
	put(t, f, 19, 16, 4, 51)
	put(t, f, 13, 30, 33)
	put(t, f, 30, 32)
	put(t, f, 31, 34, 35)
	put(t, f, 34, 50)
	put(t, f, 15, 18)
	put(t, f, 18, 36)
	put(t, f, 25, 37)
	put(t, f, 1, 38)
	put(t, f, 38, 41)
	put(t, f, 39, 40)
	put(t, f, 42, 43)
	put(t, f, 43, 46)
	put(t, f, 44, 45)
	for _, pair := range [][2]int{{3, 17}, {14, 6}, {19, 13}, {30, 31}, {18, 25}, {38, 39}, {43, 44}} {
		tie(t, f, pair[0], pair[1])
	}
	return f
}

// parents tells of each node of the house its parent for an event that is composed; 0, if it has none.
var parents = map[int]int{
	20: 9, 3: 20, 14: 20, 27: 20, 28: 27, 29: 28,
	5: 2, 8: 11, 21: 3, 2: 7, 22: 7, 7: 17, 11: 17, 17: 3,
	10: 16, 23: 4, 24: 14, 12: 14, 26: 12, 16: 32, 4: 33, 51: 19, 19: 6, 6: 14,
	32: 34, 33: 13, 30: 13, 13: 19, 34: 31, 50: 34, 35: 31, 31: 30,
	18: 15, 36: 37, 37: 25, 25: 18,
	38: 1, 41: 40, 40: 39, 39: 38,
	43: 42, 46: 45, 45: 44, 44: 43,
}

// roots tells of each node of the house that is in a shadow tree with a host that tree's root.
var roots = map[int]int{
	17: 17, 7: 17, 2: 17, 22: 17, 11: 17,
	6: 6, 19: 6, 16: 6, 4: 6, 51: 6,
	13: 13, 30: 13, 32: 13, 33: 13,
	31: 31, 34: 31, 50: 31, 35: 31,
	25: 25, 37: 25, 39: 39, 40: 39, 44: 44, 45: 44,
}

func TestTheChaptersExample(t *testing.T) {
	for _, mode := range []int{api.Open, api.Closed} {
		f := grow(t, document, element, element, element)
		put(t, f, 1, 2)
		put(t, f, 2, 3)
		put(t, f, 3, 4)
		attach(t, f, 3, mode)
		expectPath(t, f, 4, 0, true, "4=4 3 2 1")
	}
}

// P14.1: Parent

func TestParent(t *testing.T) {
	f := house(t)
	before := told(f)
	for _, x := range []struct {
		what      string
		id, first int
		// Whether an event that is composed, and one that isn't, is sent.
		composed, not int
	}{
		{"with a slot in an open tree", 5, 5, 2, 2},
		{"with a slot in a closed tree", 10, 10, 16, 16},
		{"with a slot, sent to another node", 10, 35, 16, 16},
		{"with a slot, sent to a node in the slot's tree", 10, 16, 16, 16},
		{"with a slot, sent to the slot's root", 10, 6, 16, 16},
		{"with a slot whose name it wants", 23, 23, 4, 4},
		{"a slot with a slot", 16, 10, 32, 32},
		{"a slot with a slot, sent to it", 16, 16, 32, 32},
		{"with the first one of two slots", 5, 20, 2, 2},
		{"with a slot, below a shadow root without a host", 36, 36, 37, 37},
		{"with a slot, below a fragment", 46, 46, 45, 45},

		{"an open Shadow, sent to it", 17, 17, 3, 0},
		{"an open Shadow, sent to its child", 17, 7, 3, 0},
		{"an open Shadow, sent further down", 17, 2, 3, 0},
		{"a closed Shadow, sent to it", 6, 6, 14, 0},
		{"a closed Shadow, sent to its child", 6, 19, 14, 0},
		{"a closed Shadow, sent further down", 6, 16, 14, 0},
		{"a Shadow in a shadow tree, sent to it", 31, 31, 30, 0},
		{"a Shadow in a shadow tree, sent to a node of it", 31, 50, 30, 0},

		{"an open Shadow, sent to its host", 17, 3, 3, 3},
		{"an open Shadow, sent to its host's child", 17, 5, 3, 3},
		{"an open Shadow, sent to its host's parent", 17, 20, 3, 3},
		{"a closed Shadow, sent to its host", 6, 14, 14, 14},
		{"a closed Shadow, sent to its host's child", 6, 10, 14, 14},
		{"a closed Shadow, sent to the document", 6, 9, 14, 14},
		{"a Shadow, sent to a node in a tree within", 6, 33, 14, 14},
		{"a Shadow, sent to a node in a tree two within", 6, 35, 14, 14},
		{"a Shadow, sent to a root within", 6, 13, 14, 14},
		{"a Shadow, sent to a node in the tree around", 13, 16, 19, 19},
		{"a Shadow, sent to a node in a tree beside", 17, 16, 3, 3},
		{"a Shadow, sent to another tree", 6, 47, 14, 14},

		{"a closed Shadow without a host, sent to it", 15, 15, 0, 0},
		{"a closed Shadow without a host, sent to its child", 15, 18, 0, 0},
		{"a closed Shadow without a host, sent to another tree", 15, 9, 0, 0},
		{"an open Shadow without a host, sent to it", 1, 1, 0, 0},
		{"an open Shadow without a host, sent to another tree", 1, 40, 0, 0},
		{"a Shadow in the tree of one without a host", 25, 36, 18, 18},
		{"a Shadow in the tree of one without a host, sent to its child", 25, 37, 18, 0},

		{"a child of a document", 20, 20, 9, 9},
		{"a child of an element", 27, 27, 20, 20},
		{"a host", 14, 10, 20, 20},
		{"a host, sent to a node of its tree", 14, 19, 20, 20},
		{"a host in a shadow tree", 30, 35, 13, 13},
		{"a child of a Shadow", 19, 19, 6, 6},
		{"a child of a Shadow, sent to the document", 19, 9, 6, 6},
		{"a host's child that wants what no slot is", 24, 24, 14, 14},
		{"a host's child that wants what a slot in another tree is", 51, 51, 19, 19},
		{"a fragment that is a host's child", 12, 26, 14, 14},
		{"a child of a fragment", 26, 26, 12, 12},
		{"a slot that no shadow tree has", 28, 29, 27, 27},
		{"a slot in an open tree", 11, 8, 17, 17},
		{"the second slot", 22, 22, 7, 7},
		{"a child of a slot", 50, 50, 34, 34},
		{"a document", 9, 9, 0, 0},
		{"a document, sent to a node in a closed tree", 9, 35, 0, 0},
		{"a fragment that is a root", 42, 46, 0, 0},
		{"an element alone", 47, 47, 0, 0},
		{"a document alone", 48, 48, 0, 0},
	} {
		t.Run(x.what, func(t *testing.T) {
			expectParent(t, f, x.id, x.first, true, x.composed)
			expectParent(t, f, x.id, x.first, false, x.not)
		})
	}
	expectUnchanged(t, f, before)
}

func TestParentOfAllNodes(t *testing.T) {
	f := house(t)
	before := told(f)
	for id := 1; id <= f.Len(); id++ {
		for first := -2; first <= f.Len()+3; first++ {
			expectParent(t, f, id, first, true, parents[id])
			want := parents[id]
			if id == roots[first] {
				want = 0
			}
			expectParent(t, f, id, first, false, want)
		}
	}
	expectUnchanged(t, f, before)
}

func TestParentOfWhatIsNotThere(t *testing.T) {
	f := house(t)
	before := told(f)
	for _, id := range append([]int{f.Len() + 1, 128}, strays...) {
		for first := -2; first <= f.Len()+3; first++ {
			expectParent(t, f, id, first, true, 0)
			expectParent(t, f, id, first, false, 0)
		}
	}
	expectUnchanged(t, f, before)
}

func TestParentWithAFirstThatIsNotThere(t *testing.T) {
	f := house(t)
	before := told(f)
	numbers := append([]int{f.Len() + 1, 128}, strays...)
	for _, first := range numbers {
		for id := 1; id <= f.Len(); id++ {
			// It is in no tree, so no Shadow is its root.
			expectParent(t, f, id, first, true, parents[id])
			expectParent(t, f, id, first, false, parents[id])
		}
		for _, id := range numbers {
			expectParent(t, f, id, first, true, 0)
			expectParent(t, f, id, first, false, 0)
		}
	}
	expectUnchanged(t, f, before)
}

// The lowest number is a node's as well as any.
func TestTheFirstNodeIsASlotAHostAndAParent(t *testing.T) {
	f := grow(t, both("", ""), closed, element, element, element, closed)
	tie(t, f, 3, 2)
	put(t, f, 2, 1)
	put(t, f, 3, 4)
	expectParent(t, f, 4, 4, true, 1)
	expectPath(t, f, 4, 0, false, "4=4 1S 2R 3")
	put(t, f, 1, 5)
	tie(t, f, 1, 6)
	expectParent(t, f, 5, 5, true, 1)
	expectPath(t, f, 6, 0, true, "6=6R 1=1 2R 3=3")
	expectPath(t, f, 6, 1, true, "6=6/1R")
	expectPath(t, f, 1, 6, true, "")
}

// P14.1: Make. A path is written as its entries: the node, behind = the target, behind / the related node, R for ClosedRoot, S for ClosedSlot; what is 0 or false is left out.

func TestMakeWithoutARelatedNode(t *testing.T) {
	f := house(t)
	before := told(f)
	for _, x := range []struct {
		what          string
		target        int
		composed, not string
	}{
		{"a document", 9, "9=9", "9=9"},
		{"an element alone", 47, "47=47", "47=47"},
		{"a document alone", 48, "48=48", "48=48"},
		{"a fragment that is a root", 42, "42=42", "42=42"},
		{"in no shadow tree", 27, "27=27 20 9", "27=27 20 9"},
		{"in no shadow tree, below a slot", 29, "29=29 28 27 20 9", "29=29 28 27 20 9"},
		{"a host of an open tree", 3, "3=3 20 9", "3=3 20 9"},
		{"a host of a closed tree", 14, "14=14 20 9", "14=14 20 9"},
		{"a host's child without a slot", 24, "24=24 14 20 9", "24=24 14 20 9"},
		{"in a fragment that is a host's child", 26, "26=26 12 14 20 9", "26=26 12 14 20 9"},

		{"assigned to a slot in an open tree", 5, "5=5 2 7 17 3 20 9", "5=5 2 7 17 3 20 9"},
		{"assigned to a slot that is the root's child", 8, "8=8 11 17 3 20 9", "8=8 11 17 3 20 9"},
		{"assigned to a slot in a closed tree that is assigned on to a closed tree", 10, "10=10 16S 32 34S 31R 30 13 19 6R 14 20 9", "10=10 16S 32 34S 31R 30 13 19 6R 14 20 9"},
		{"assigned to a slot in a closed tree that is assigned on to an open tree", 23, "23=23 4S 33 13 19 6R 14 20 9", "23=23 4S 33 13 19 6R 14 20 9"},
		{"assigned to a slot below a fragment", 46, "46=46 45S 44R 43 42", "46=46 45S 44R 43 42"},
		{"assigned, below a closed Shadow without a host", 36, "36=36 37 25 18 15R", "36=36 37 25 18 15R"},
		{"assigned, below an open Shadow without a host", 41, "41=41 40S 39R 38 1", "41=41 40S 39R 38 1"},

		{"an open Shadow", 17, "17=17 3=3 20 9", "17=17"},
		{"in an open tree", 7, "7=7 17 3=3 20 9", "7=7 17"},
		{"a slot in an open tree", 2, "2=2 7 17 3=3 20 9", "2=2 7 17"},
		{"a slot to which nothing is assigned", 22, "22=22 7 17 3=3 20 9", "22=22 7 17"},
		{"a closed Shadow", 6, "6=6R 14=14 20 9", "6=6R"},
		{"in a closed tree", 19, "19=19 6R 14=14 20 9", "19=19 6R"},
		{"in a closed tree, a host's child", 51, "51=51 19 6R 14=14 20 9", "51=51 19 6R"},
		{"a slot in a closed tree, assigned on to a closed tree", 16, "16=16 32 34S 31R 30 13 19 6R 14=14 20 9", "16=16 32 34S 31R 30 13 19 6R"},
		{"a slot in a closed tree, assigned on to an open tree", 4, "4=4 33 13 19 6R 14=14 20 9", "4=4 33 13 19 6R"},
		{"a slot in a closed tree, that isn't assigned", 45, "45=45 44R 43=43 42", "45=45 44R"},

		{"an open Shadow in a closed tree", 13, "13=13 19=19 6R 14=14 20 9", "13=13"},
		{"in an open tree in a closed one", 30, "30=30 13 19=19 6R 14=14 20 9", "30=30 13"},
		{"a slot in an open tree in a closed one", 33, "33=33 13 19=19 6R 14=14 20 9", "33=33 13"},
		{"a slot in an open tree, assigned on to a closed one", 32, "32=32 34S 31R 30 13 19=19 6R 14=14 20 9", "32=32 34S 31R 30 13"},
		{"a closed Shadow in two trees", 31, "31=31R 30=30 13 19=19 6R 14=14 20 9", "31=31R"},
		{"in three trees", 35, "35=35 31R 30=30 13 19=19 6R 14=14 20 9", "35=35 31R"},
		{"in three trees, a slot", 34, "34=34 31R 30=30 13 19=19 6R 14=14 20 9", "34=34 31R"},
		{"in three trees, a slot's child", 50, "50=50 34 31R 30=30 13 19=19 6R 14=14 20 9", "50=50 34 31R"},

		{"a closed Shadow without a host", 15, "15=15R", "15=15R"},
		{"a closed Shadow without a host, alone", 49, "49=49R", "49=49R"},
		{"an open Shadow without a host", 1, "1=1", "1=1"},
		{"below a closed Shadow without a host", 18, "18=18 15R", "18=18 15R"},
		{"in a tree in that of a Shadow without a host", 37, "37=37 25 18=18 15R", "37=37 25"},
		{"in a closed tree in that of a Shadow without a host", 40, "40=40 39R 38=38 1", "40=40 39R"},
	} {
		t.Run(x.what, func(t *testing.T) {
			expectPath(t, f, x.target, 0, true, x.composed)
			expectPath(t, f, x.target, 0, false, x.not)
		})
	}
	expectUnchanged(t, f, before)
}

func TestMakeWithARelatedNode(t *testing.T) {
	f := house(t)
	before := told(f)
	for _, x := range []struct {
		what            string
		target, related int
		composed, not   string
	}{
		{"in no shadow tree, both", 29, 24, "29=29/24 28/24 27/24 20/24 9/24", "29=29/24 28/24 27/24 20/24 9/24"},
		{"the target's parent, in no shadow tree", 29, 28, "29=29/28 28/28 27/28 20/28 9/28", "29=29/28 28/28 27/28 20/28 9/28"},
		{"the root", 27, 9, "27=27/9 20/9 9/9", "27=27/9 20/9 9/9"},
		{"another tree", 27, 47, "27=27/47 20/47 9/47", "27=27/47 20/47 9/47"},
		{"another tree, from three trees", 35, 47, "35=35/47 31/47R 30=30/47 13/47 19=19/47 6/47R 14=14/47 20/47 9/47", "35=35/47 31/47R"},
		{"a host on the way, whose tree doesn't hold the target", 26, 14, "26=26/14 12/14 14/14 20/14 9/14", "26=26/14 12/14 14/14 20/14 9/14"},

		{"the target, in no shadow tree", 27, 27, "27=27/27 20/27 9/27", "27=27/27 20/27 9/27"},
		{"the target, a host", 14, 14, "14=14/14 20/14 9/14", "14=14/14 20/14 9/14"},
		{"the target, alone", 47, 47, "47=47/47", "47=47/47"},
		{"the target, a document", 9, 9, "9=9/9", "9=9/9"},
		{"the target, in an open tree", 7, 7, "7=7/7 17/7", "7=7/7 17/7"},
		{"the target, in a closed tree", 19, 19, "19=19/19 6/19R", "19=19/19 6/19R"},
		{"the target, an open Shadow", 17, 17, "17=17/17", "17=17/17"},
		{"the target, a closed Shadow", 6, 6, "6=6/6R", "6=6/6R"},
		{"the target, in three trees", 35, 35, "35=35/35 31/35R", "35=35/35 31/35R"},
		{"the target, assigned to a slot", 5, 5, "5=5/5 2/5 7/5 17/5 3/5 20/5 9/5", "5=5/5 2/5 7/5 17/5 3/5 20/5 9/5"},
		{"the target, a slot that is assigned", 4, 4, "4=4/4 33/4 13/4 19/4 6/4R", "4=4/4 33/4 13/4 19/4 6/4R"},
		{"the target, a closed Shadow without a host", 15, 15, "15=15/15R", "15=15/15R"},
		{"the target, below a Shadow without a host", 36, 36, "36=36/36 37/36 25/36 18/36 15/36R", "36=36/36 37/36 25/36 18/36 15/36R"},

		{"in the target's host's open tree", 3, 7, "", ""},
		{"the target's open shadow root", 3, 17, "", ""},
		{"in the target's host's closed tree", 14, 19, "", ""},
		{"the target's closed shadow root", 14, 6, "", ""},
		{"a slot of the target's tree", 14, 16, "", ""},
		{"two trees within the target's", 14, 33, "", ""},
		{"three trees within the target's", 14, 35, "", ""},
		{"within, the target in a tree itself", 19, 30, "", ""},
		{"two within, the target in a tree itself", 19, 50, "", ""},
		{"within, the target in two trees", 30, 31, "", ""},
		{"within, the target below a Shadow without a host", 18, 37, "", ""},
		{"within, the target below a fragment", 43, 44, "", ""},

		{"in a tree within, beside the target", 24, 19, "24=24/14 14/14 20/14 9/14", "24=24/14 14/14 20/14 9/14"},
		{"in an open tree within, beside the target", 21, 7, "21=21/3 3/3 20/3 9/3", "21=21/3 3/3 20/3 9/3"},
		{"in a tree within, of a host above the target", 26, 35, "26=26/14 12/14 14/14 20/14 9/14", "26=26/14 12/14 14/14 20/14 9/14"},
		{"in a tree within, below the target", 20, 35, "20=20/14 9/14", "20=20/14 9/14"},
		{"in a tree within, beside the target in a closed tree", 51, 35, "51=51/19 19/19 6/19R", "51=51/19 19/19 6/19R"},

		{"in a tree beside", 7, 19, "7=7/14 17/14 3=3/14 20/14 9/14", "7=7/14 17/14"},
		{"in a tree beside, the other way", 19, 7, "19=19/3 6/3R 14=14/3 20/3 9/3", "19=19/3 6/3R"},
		{"in a tree beside, deeper", 7, 35, "7=7/14 17/14 3=3/14 20/14 9/14", "7=7/14 17/14"},
		{"in a tree beside, the target deeper", 35, 7, "35=35/3 31/3R 30=30/3 13/3 19=19/3 6/3R 14=14/3 20/3 9/3", "35=35/3 31/3R"},
		{"in a shadow tree of another tree", 19, 45, "19=19/43 6/43R 14=14/43 20/43 9/43", "19=19/43 6/43R"},
		{"in a tree without a host", 19, 18, "19=19/18 6/18R 14=14/18 20/18 9/18", "19=19/18 6/18R"},

		{"in the tree around", 30, 51, "30=30/51 13/51 19=19/51 6/51R", "30=30/51 13/51"},
		{"in the outermost tree", 35, 24, "35=35/24 31/24R 30=30/24 13/24 19=19/24 6/24R 14=14/24 20/24 9/24", "35=35/24 31/24R"},
		{"the host", 19, 14, "19=19/14 6/14R", "19=19/14 6/14R"},
		{"the host, of an open tree", 7, 3, "7=7/3 17/3", "7=7/3 17/3"},
		{"the host's parent", 19, 20, "19=19/20 6/20R 14=14/20 20/20 9/20", "19=19/20 6/20R"},
		{"the document", 35, 9, "35=35/9 31/9R 30=30/9 13/9 19=19/9 6/9R 14=14/9 20/9 9/9", "35=35/9 31/9R"},

		{"in the target's open tree", 2, 11, "2=2/11 7/11 17/11", "2=2/11 7/11 17/11"},
		{"in the target's closed tree", 35, 34, "35=35/34 31/34R", "35=35/34 31/34R"},
		{"the target's root", 19, 6, "19=19/6 6/6R", "19=19/6 6/6R"},
		{"the innermost host", 35, 30, "35=35/30 31/30R", "35=35/30 31/30R"},
		{"in the tree around, at whose host it ends", 35, 33, "35=35/33 31/33R 30=30/33 13/33", "35=35/33 31/33R"},
		{"the host further out", 35, 19, "35=35/19 31/19R 30=30/19 13/19", "35=35/19 31/19R"},
		{"in the tree two around", 35, 16, "35=35/16 31/16R 30=30/16 13/16 19=19/16 6/16R", "35=35/16 31/16R"},
		{"the outermost host", 35, 14, "35=35/14 31/14R 30=30/14 13/14 19=19/14 6/14R", "35=35/14 31/14R"},
		{"in the tree two around, the target a slot that is assigned", 32, 51, "32=32/51 34/51S 31/51R 30/51 13/51 19=19/51 6/51R", "32=32/51 34/51S 31/51R 30/51 13/51"},

		{"the slot of the target", 5, 2, "5=5/3 2/2 7/2 17/2 3/3 20/3 9/3", "5=5/3 2/2 7/2 17/2 3/3 20/3 9/3"},
		{"in the slot's tree", 8, 22, "8=8/3 11/22 17/22 3/3 20/3 9/3", "8=8/3 11/22 17/22 3/3 20/3 9/3"},
		{"in the innermost of the slots' trees", 10, 35, "10=10/14 16/19S 32/30 34/35S 31/35R 30/30 13/30 19/19 6/19R 14/14 20/14 9/14", "10=10/14 16/19S 32/30 34/35S 31/35R 30/30 13/30 19/19 6/19R 14/14 20/14 9/14"},
		{"in the outermost of the slots' trees", 10, 51, "10=10/14 16/51S 32/51 34/51S 31/51R 30/51 13/51 19/51 6/51R 14/14 20/14 9/14", "10=10/14 16/51S 32/51 34/51S 31/51R 30/51 13/51 19/51 6/51R 14/14 20/14 9/14"},
		{"in the slots' trees, the target a slot", 16, 35, "16=16/19 32/30 34/35S 31/35R 30/30 13/30 19/19 6/19R", "16=16/19 32/30 34/35S 31/35R 30/30 13/30 19/19 6/19R"},
		{"in the slots' trees, aimed at the target's host", 4, 30, "4=4/19 33/30 13/30 19/19 6/19R", "4=4/19 33/30 13/30 19/19 6/19R"},
		{"the slot's host", 5, 3, "5=5/3 2/3 7/3 17/3 3/3 20/3 9/3", "5=5/3 2/3 7/3 17/3 3/3 20/3 9/3"},
	} {
		t.Run(x.what, func(t *testing.T) {
			expectPath(t, f, x.target, x.related, true, x.composed)
			expectPath(t, f, x.target, x.related, false, x.not)
		})
	}
	expectUnchanged(t, f, before)
}

func TestMakeWithARelatedThatIsNotThere(t *testing.T) {
	f := house(t)
	before := told(f)
	for _, related := range append([]int{f.Len() + 1, 128}, strays...) {
		for target := 1; target <= f.Len(); target++ {
			for _, composed := range []bool{false, true} {
				expectPath(t, f, target, related, composed, text(Make(f, target, 0, composed)))
			}
		}
		expectPath(t, f, 35, related, true, "35=35 31R 30=30 13 19=19 6R 14=14 20 9")
		expectPath(t, f, 10, related, false, "10=10 16S 32 34S 31R 30 13 19 6R 14 20 9")
	}
	expectUnchanged(t, f, before)
}

func TestMakeToATargetThatIsNotThere(t *testing.T) {
	f := house(t)
	before := told(f)
	numbers := append([]int{f.Len() + 1, 128}, strays...)
	for _, target := range numbers {
		for related := -1; related <= f.Len()+1; related++ {
			expectPath(t, f, target, related, true, "")
			expectPath(t, f, target, related, false, "")
		}
		for _, related := range numbers {
			expectPath(t, f, target, related, true, "")
			expectPath(t, f, target, related, false, "")
		}
		expectPath(t, f, target, target, true, "")
	}
	expectUnchanged(t, f, before)
}

// What is told of each entry, one by one, hangs on nothing but the entry's place on the way.
func TestEachFieldOfAllPaths(t *testing.T) {
	f := house(t)
	before := told(f)
	entries := 0
	for target := 1; target <= f.Len(); target++ {
		for related := 0; related <= f.Len(); related++ {
			for _, composed := range []bool{false, true} {
				for i, s := range Make(f, target, related, composed) {
					expectEntry(t, f, target, related, i, s)
					entries++
				}
			}
		}
	}
	if entries < 15000 {
		t.Errorf("only %d entries", entries)
	}
	expectUnchanged(t, f, before)
}

// expectEntry holds an entry against what the house's plan tells of its node.
func expectEntry(t *testing.T, f *arena.Forest, target, related, i int, s api.Step) {
	t.Helper()
	if i == 0 && (s.Node != target || s.Target != target) {
		t.Fatalf("the first entry of a path to %d is %+v", target, s)
	}
	if s.Target != 0 && s.Target != s.Node {
		t.Fatalf("to %d: %+v tells another target than its node", target, s)
	}
	if want := leave(related, s.Node); s.Related != want {
		t.Fatalf("to %d, related %d: %+v, where %d is to be told", target, related, s, want)
	}
	if want := slices.Contains([]int{6, 15, 31, 39, 44, 49}, s.Node); s.ClosedRoot != want {
		t.Fatalf("to %d: ClosedRoot of %+v", target, s)
	}
	if want := i > 0 && slices.Contains([]int{16, 4, 40, 45}, s.Node) || s.Node == 34 && i > 0 && target != 50; s.ClosedSlot != want {
		t.Fatalf("to %d: ClosedSlot of %+v", target, s)
	}
}

// hosts tells the host of each shadow root of the house.
var hosts = map[int]int{17: 3, 6: 14, 13: 19, 31: 30, 25: 18, 39: 38, 44: 43}

// leave tells a aimed at b, by the house's plan.
func leave(a, b int) int {
	// around tells the roots of the shadow trees around b.
	around := map[int]bool{}
	for root := roots[b]; root != 0; root = roots[hosts[root]] {
		around[root] = true
	}
	for roots[a] != 0 && !around[roots[a]] {
		a = hosts[roots[a]]
	}
	return a
}

func TestMakeIsEmptyJustIfTheHostOfTheRelatedIsTheTarget(t *testing.T) {
	f := house(t)
	for target := 1; target <= f.Len(); target++ {
		for related := -1; related <= f.Len()+1; related++ {
			want := related != target && leave(related, target) == target
			for _, composed := range []bool{false, true} {
				if got := len(Make(f, target, related, composed)) == 0; got != want {
					t.Errorf("Make(%d, %d, %v) is empty: %v", target, related, composed, got)
				}
			}
		}
	}
}

// P14.2

func TestEachEntryIsTheParentOfTheOneAhead(t *testing.T) {
	f := house(t)
	before := told(f)
	for target := -1; target <= f.Len()+1; target++ {
		for related := -1; related <= f.Len()+1; related++ {
			expectWay(t, f, target, related, true)
			expectWay(t, f, target, related, false)
		}
	}
	expectUnchanged(t, f, before)
}

// An event that isn't composed goes the way of one that is, up to the first one's root.
func TestWhatIsNotComposedStaysWithinTheRoot(t *testing.T) {
	f := house(t)
	cut, kept := 0, 0
	for target := 1; target <= f.Len(); target++ {
		for related := 0; related <= f.Len(); related++ {
			all, not := Make(f, target, related, true), Make(f, target, related, false)
			if len(all) == 0 {
				continue
			}
			want := all
			if at := slices.IndexFunc(all, func(s api.Step) bool { return s.Node == roots[target] }); at >= 0 {
				want = all[:at+1]
			}
			if !slices.Equal(not, want) {
				t.Errorf("Make(%d, %d): not composed %s, composed %s", target, related, text(not), text(all))
			}
			if len(want) < len(all) {
				cut++
			} else {
				kept++
			}
		}
	}
	if cut < 700 || kept < 700 {
		t.Errorf("%d were cut, %d kept", cut, kept)
	}
}

// The greatest forests

// The element id is the host of the root 64 + id, that is the parent of the element id + 1.
const half = api.MaxNodes / 2

func nested(t *testing.T) *arena.Forest {
	t.Helper()
	f := grow(t, slices.Repeat([]api.Node{element}, half)...)
	for id := 1; id <= half; id++ {
		attach(t, f, id, 1+id%3%2)
		if id < half {
			put(t, f, half+id, id+1)
		}
	}
	return f
}

func TestAsManyShadowTreesAsCanBe(t *testing.T) {
	f := nested(t)
	before := told(f)
	for target := 1; target <= half; target++ {
		var want []api.Step
		for id := target; id >= 1; id-- {
			if id < target {
				want = append(want, api.Step{Node: half + id, ClosedRoot: id%3 == 1})
			}
			want = append(want, api.Step{Node: id, Target: id})
		}
		expectPath(t, f, target, 0, true, text(want))
		expectPath(t, f, target, 0, false, text(want[:min(2, len(want))]))
		// The root of the element's own tree comes ahead of it.
		root := api.Step{Node: half + target, Target: half + target, ClosedRoot: target%3 == 1}
		expectPath(t, f, half+target, 0, true, text(append([]api.Step{root}, want...)))
		expectPath(t, f, half+target, 0, false, text([]api.Step{root}))
		expectPath(t, f, target, half, true, text(withTheInnermost(target, want)))
		expectWay(t, f, target, 1, true)
	}
	expectUnchanged(t, f, before)
}

// withTheInnermost tells the path to target with the innermost element as the related one, by that without: all but that element's own is empty.
func withTheInnermost(target int, without []api.Step) []api.Step {
	if target < half {
		return nil
	}
	path := slices.Clone(without[:2])
	for i := range path {
		path[i].Related = half
	}
	return path
}

// The host 3i + 1 has the root 3i + 3, in whose tree is the slot 3i + 2, a child of the next host.
func TestAsManySlotsAsCanBe(t *testing.T) {
	const levels = (api.MaxNodes - 2) / 3
	f := arena.New()
	for range levels {
		for _, n := range []api.Node{element, both("", ""), closed} {
			if _, e := f.Make(n); e != ok {
				t.Fatal(e)
			}
		}
	}
	first, e := f.Make(element)
	if e != ok {
		t.Fatal(e)
	}
	put(t, f, 1, first)
	want := []api.Step{{Node: first, Target: first}}
	for i := range levels {
		tie(t, f, 3*i+1, 3*i+3)
		want = append(want, api.Step{Node: 3*i + 2, ClosedSlot: true})
		if i == levels-1 {
			put(t, f, 3*i+3, 3*i+2)
			break
		}
		put(t, f, 3*i+3, 3*i+4)
		put(t, f, 3*i+4, 3*i+2)
	}
	for i := levels - 1; i >= 0; i-- {
		want = append(want, api.Step{Node: 3*i + 3, ClosedRoot: true}, api.Step{Node: 3*i + 1})
	}
	before := told(f)
	expectPath(t, f, first, 0, true, text(want))
	expectPath(t, f, first, 0, false, text(want))
	for target := 1; target <= f.Len(); target++ {
		expectWay(t, f, target, 0, true)
		expectWay(t, f, target, first, false)
	}
	expectUnchanged(t, f, before)
}

func TestALongTree(t *testing.T) {
	f := grow(t, slices.Repeat([]api.Node{element}, api.MaxNodes)...)
	var want []api.Step
	for id := api.MaxNodes; id >= 1; id-- {
		want = append(want, api.Step{Node: id, Related: 1})
		if id > 1 {
			put(t, f, id-1, id)
		}
	}
	want[0].Target = api.MaxNodes
	expectPath(t, f, api.MaxNodes, 1, true, text(want))
	expectPath(t, f, api.MaxNodes, 1, false, text(want))
}

// Nil and zero forests

func TestNilAndZeroForests(t *testing.T) {
	var zero arena.Forest
	numbers := append([]int{1, 2, 3, 128}, strays...)
	for _, f := range []*arena.Forest{nil, &zero, arena.New()} {
		for _, a := range numbers {
			for _, b := range numbers {
				for _, composed := range []bool{false, true} {
					expectParent(t, f, a, b, composed, 0)
					expectPath(t, f, a, b, composed, "")
				}
			}
		}
		if f.Len() != 0 {
			t.Error("asking made nodes")
		}
	}
}

func TestAZeroForestThatGotNodes(t *testing.T) {
	var f arena.Forest
	for range 2 {
		if _, e := f.Make(element); e != ok {
			t.Fatal(e)
		}
	}
	attach(t, &f, 2, api.Closed)
	put(t, &f, 3, 1)
	expectPath(t, &f, 1, 0, true, "1=1 3R 2=2")
	expectParent(t, &f, 3, 1, false, 0)
}

// R4

func TestPathsShareNoMemory(t *testing.T) {
	f := house(t)
	before := told(f)
	for _, composed := range []bool{false, true} {
		one, other := Make(f, 10, 35, composed), Make(f, 10, 35, composed)
		want := text(other)
		scribble(one)
		if text(other) != want {
			t.Error("writing over one path changes another one")
		}
		expectPath(t, f, 10, 35, composed, want)
		scribble(other)
		expectPath(t, f, 10, 35, composed, want)
	}
	expectUnchanged(t, f, before)
}

// scribble writes over a path and over what lies behind its length.
func scribble(path []api.Step) {
	path = path[:cap(path)]
	for i := range path {
		path[i] = api.Step{Node: -7, Target: -7, Related: -7, ClosedRoot: true, ClosedSlot: true}
	}
}

// R6

func TestPathsGoWithTheForest(t *testing.T) {
	f := grow(t, document, element, element, closed, both("", ""), both("a", ""))
	put(t, f, 1, 2)
	put(t, f, 2, 3)
	put(t, f, 4, 5, 6)
	expectPath(t, f, 3, 5, true, "3=3/5 2/5 1/5")
	expectPath(t, f, 5, 0, true, "5=5 4R")
	tie(t, f, 2, 4)
	expectPath(t, f, 3, 5, true, "3=3/2 5/5S 4/5R 2/2 1/2")
	expectPath(t, f, 5, 0, true, "5=5 4R 2=2 1")
	if e := f.Want(3, "a"); e != ok {
		t.Fatal(e)
	}
	expectPath(t, f, 3, 0, true, "3=3 6S 4R 2 1")
	if e := f.Name(6, "b"); e != ok {
		t.Fatal(e)
	}
	expectPath(t, f, 3, 0, true, "3=3 2 1")
	if e := f.Name(5, "a"); e != ok {
		t.Fatal(e)
	}
	expectPath(t, f, 3, 0, true, "3=3 5S 4R 2 1")
	put(t, f, 4, 6)
	expectPath(t, f, 3, 5, true, "3=3/5 2/5 1/5")
	expectPath(t, f, 5, 3, true, "5=5/3")
	put(t, f, 1)
	expectPath(t, f, 3, 0, true, "3=3 2")
	expectPath(t, f, 6, 0, false, "6=6 4R")
}

// A path that was told stays as it was, whatever becomes of the forest.
func TestAPathStays(t *testing.T) {
	f := house(t)
	path := Make(f, 10, 0, true)
	want := text(path)
	put(t, f, 14)
	put(t, f, 31)
	put(t, f, 9)
	if text(path) != want {
		t.Errorf("%s became %s", want, text(path))
	}
	expectPath(t, f, 10, 0, true, "10=10")
}

func TestForestsAreApart(t *testing.T) {
	f, g := house(t), grow(t, element, element, closed, element)
	tie(t, g, 1, 3)
	put(t, g, 3, 4)
	expectPath(t, g, 4, 2, true, "4=4/2 3/2R 1=1/2")
	expectPath(t, f, 4, 2, true, "4=4/3 33/3 13/3 19/3 6/3R 14=14/3 20/3 9/3")
	put(t, g, 3)
	expectPath(t, g, 4, 2, true, "4=4/2")
	expectPath(t, f, 4, 2, true, "4=4/3 33/3 13/3 19/3 6/3R 14=14/3 20/3 9/3")
}

func TestTheSameIsToldAgain(t *testing.T) {
	f := house(t)
	answers := func() string {
		var b strings.Builder
		for target := -1; target <= f.Len()+1; target++ {
			for other := -1; other <= f.Len()+1; other++ {
				for _, composed := range []bool{false, true} {
					fmt.Fprintln(&b, Parent(f, target, other, composed), text(Make(f, target, other, composed)))
				}
			}
		}
		return b.String()
	}
	before, first := told(f), answers()
	if answers() != first {
		t.Error("the second time something else is told")
	}
	expectUnchanged(t, f, before)
}

// grow gives a forest of these nodes.
func grow(t *testing.T, nodes ...api.Node) *arena.Forest {
	t.Helper()
	f := arena.New()
	for i, n := range nodes {
		if id, e := f.Make(n); id != i+1 || e != ok {
			t.Fatal(id, e)
		}
	}
	return f
}

func put(t *testing.T, f *arena.Forest, parent int, kids ...int) {
	t.Helper()
	if e := f.Put(parent, kids...); e != ok {
		t.Fatalf("Put(%d, %v): %v", parent, kids, e)
	}
}

func tie(t *testing.T, f *arena.Forest, host, root int) {
	t.Helper()
	if e := f.Tie(host, root); e != ok {
		t.Fatalf("Tie(%d, %d): %v", host, root, e)
	}
}

func attach(t *testing.T, f *arena.Forest, host, mode int) {
	t.Helper()
	if _, e := shade.Attach(f, host, mode); e != ok {
		t.Fatalf("Attach(%d, %d): %v", host, mode, e)
	}
}

// told gives a text of all that a forest tells.
func told(f *arena.Forest) string { return fmt.Sprintf("%+v", f.All()) }

func expectUnchanged(t *testing.T, f *arena.Forest, before string) {
	t.Helper()
	if told(f) != before {
		t.Fatal("asking changed the forest")
	}
}

// text writes a path as the tables have it.
func text(path []api.Step) string {
	var l []string
	for _, s := range path {
		entry := strconv.Itoa(s.Node)
		if s.Target != 0 {
			entry += "=" + strconv.Itoa(s.Target)
		}
		if s.Related != 0 {
			entry += "/" + strconv.Itoa(s.Related)
		}
		if s.ClosedRoot {
			entry += "R"
		}
		if s.ClosedSlot {
			entry += "S"
		}
		l = append(l, entry)
	}
	return strings.Join(l, " ")
}

func expectParent(t *testing.T, f *arena.Forest, id, first int, composed bool, want int) {
	t.Helper()
	if got := Parent(f, id, first, composed); got != want {
		t.Fatalf("Parent(%d, %d, %v) = %d, not %d", id, first, composed, got, want)
	}
}

func expectPath(t *testing.T, f *arena.Forest, target, related int, composed bool, want string) {
	t.Helper()
	if got := text(Make(f, target, related, composed)); got != want {
		t.Fatalf("Make(%d, %d, %v) = %s\nnot %s", target, related, composed, got, want)
	}
}

// expectWay looks at P14.2: each entry's node is the parent of the one ahead's, none comes twice, and of an event that isn't composed the first one's root holds each.
func expectWay(t *testing.T, f *arena.Forest, target, related int, composed bool) {
	t.Helper()
	path := Make(f, target, related, composed)
	seen := map[int]bool{}
	for i, s := range path {
		if i > 0 && s.Node != Parent(f, path[i-1].Node, target, composed) {
			t.Fatalf("Make(%d, %d, %v) = %s: the entry %d isn't the parent of the one ahead", target, related, composed, text(path), i)
		}
		if seen[s.Node] {
			t.Fatalf("Make(%d, %d, %v) = %s: %d comes twice", target, related, composed, text(path), s.Node)
		}
		seen[s.Node] = true
		if !composed && !shade.Holds(f, kin.Root(f, target), s.Node) {
			t.Fatalf("Make(%d, %d, %v) = %s: the first one's root doesn't hold %d", target, related, composed, text(path), s.Node)
		}
	}
}
