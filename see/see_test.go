package see

import (
	"fmt"
	"math"
	"slices"
	"strconv"
	"strings"
	"testing"

	"towncrier/api"
	"towncrier/arena"
	"towncrier/path"
	"towncrier/shade"
)

const ok = api.OK

// strays are numbers that no node of the tables' paths has.
var strays = []int{0, -1, -2, -128, 129, 1 << 31, 1 << 32, 1<<32 + 1, math.MaxInt, math.MinInt, math.MinInt + 1}

// A path is written as its entries: the node, R for ClosedRoot, S for ClosedSlot.

// steps gives the path of a text.
func steps(t *testing.T, text string) []api.Step {
	t.Helper()
	var p []api.Step
	for _, entry := range strings.Fields(text) {
		digits := strings.TrimRight(entry, "RS")
		node, e := strconv.Atoi(digits)
		if e != nil {
			t.Fatal(entry)
		}
		flags := entry[len(digits):]
		p = append(p, api.Step{Node: node, ClosedRoot: strings.Contains(flags, "R"), ClosedSlot: strings.Contains(flags, "S")})
	}
	return p
}

// text writes a path.
func text(p []api.Step) string {
	var l []string
	for _, s := range p {
		entry := strconv.Itoa(s.Node)
		if s.ClosedRoot {
			entry += "R"
		}
		if s.ClosedSlot {
			entry += "S"
		}
		l = append(l, entry)
	}
	return strings.Join(l, " ")
}

// list writes what is seen.
func list(nodes []int) string { return strings.Trim(fmt.Sprint(nodes), "[]") }

func TestTheChaptersExample(t *testing.T) {
	for _, p := range []string{"7", "7 3", "4 9 2 1", "1 2 3 4 5 6 7 8", "128 1 64"} {
		for _, s := range steps(t, p) {
			expectSeen(t, steps(t, p), s.Node, p)
			expectLevel(t, steps(t, p), s.Node, 0)
		}
	}
}

// P15.1: Level

func TestLevel(t *testing.T) {
	for _, x := range []struct {
		what, path string
		node, want int
	}{
		{"an empty path", "", 1, 0},
		{"no entry's node", "5R 3R 2 1R", 4, 0},
		{"no entry's node, below all", "5R 3R 2R", 1, 0},
		{"no entry's node, above all", "5R 3R 2R", 6, 0},

		{"the only entry, with neither", "5", 5, 0},
		{"the only entry, with ClosedRoot", "5R", 5, 1},
		{"the only entry, with ClosedSlot", "5S", 5, 0},
		{"the only entry, with both", "5RS", 5, 1},

		{"the last entry, with neither", "4RS 3R 2S 5", 5, 0},
		{"the last entry, with ClosedRoot", "4RS 3R 2S 5R", 5, 1},
		{"the last entry, with ClosedSlot", "4RS 3R 2S 5S", 5, 0},
		{"the last entry, with both", "4RS 3R 2S 5RS", 5, 1},

		{"the first entry, with neither", "5 4 3", 5, 0},
		{"the first entry, with ClosedRoot", "5R 4 3", 5, 1},
		{"the first entry, with ClosedSlot", "5S 4 3", 5, 0},
		{"the first entry, with both", "5RS 4 3", 5, 1},

		{"a middle entry, with neither", "4R 5 3", 5, 0},
		{"a middle entry, with ClosedRoot", "4R 5R 3", 5, 1},
		{"a middle entry, with ClosedSlot", "4R 5S 3", 5, 0},
		{"a middle entry, with both", "4R 5RS 3", 5, 1},

		{"ClosedRoot next behind", "5 4R 3 2", 5, 1},
		{"ClosedRoot further behind", "5 4 3R 2", 5, 1},
		{"ClosedRoot at the end", "5 4 3 2R", 5, 1},
		{"ClosedRoot at all behind", "5 4R 3R 2R", 5, 3},
		{"ClosedRoot at all", "5R 4R 3R 2R", 5, 4},
		{"ClosedSlot next behind", "5 4S 3 2", 5, -1},
		{"ClosedSlot further behind", "5 4 3S 2", 5, -1},
		{"ClosedSlot at the end", "5 4 3 2S", 5, -1},
		{"ClosedSlot at all behind", "5 4S 3S 2S", 5, -3},
		{"ClosedSlot at all", "5S 4S 3S 2S", 5, -3},
		{"both behind", "5 4RS", 5, 0},
		{"both at all behind", "5 4RS 3RS 2RS", 5, 0},
		{"both at all", "5RS 4RS 3RS 2RS", 5, 1},

		{"a slot, then its root", "5 4S 3R 2", 5, 0},
		{"at the slot", "5 4S 3R 2", 4, 1},
		{"at the root", "5 4S 3R 2", 3, 1},
		{"behind the root", "5 4S 3R 2", 2, 0},
		{"a root, then a slot", "5 4R 3S 2", 5, 0},
		{"at that root", "5 4R 3S 2", 4, 0},
		{"at that slot", "5 4R 3S 2", 3, 0},
		{"more roots than slots", "5 4R 3S 2R 1R", 5, 2},
		{"more slots than roots", "5 4S 3R 2S 1S", 5, -2},
		{"as many", "5 4S 3S 2R 1R", 5, 0},
		{"as many, within", "5 4S 3S 2R 1R", 3, 2},
		{"below 0 and up again", "5R 4S 3S 2S 1R", 5, -1},

		{"what is ahead with ClosedRoot", "9R 8R 5 4", 5, 0},
		{"what is ahead with ClosedSlot", "9S 8S 5 4", 5, 0},
		{"what is ahead with both", "9RS 8RS 5R 4", 5, 1},
		{"what is ahead, at the end", "9RS 8R 7S 5", 5, 0},

		{"two entries' node, the last one counts", "5R 4R 5", 5, 0},
		{"two entries' node, beside one another", "5R 5", 5, 0},
		{"two entries' node, both with ClosedRoot", "5R 5R", 5, 1},
		{"two entries' node, both with ClosedSlot", "5S 5S", 5, 0},
		{"two entries' node, the last one with ClosedRoot", "5 4S 3S 5R 2", 5, 1},
		{"two entries' node, the last one with ClosedSlot", "5R 4R 5S 2R", 5, 1},
		{"three entries' node", "5R 5R 4R 5S 2S", 5, -1},
		{"another one is two entries' node", "5 4R 4R 3", 5, 2},
	} {
		t.Run(x.what, func(t *testing.T) { expectLevel(t, steps(t, x.path), x.node, x.want) })
	}
}

func TestLevelsOfAWholePath(t *testing.T) {
	for _, x := range []struct {
		path string
		want []int
	}{
		{"1 2 3 4", []int{0, 0, 0, 0}},
		{"1R 2R 3R 4R", []int{4, 3, 2, 1}},
		{"1S 2S 3S 4S", []int{-3, -2, -1, 0}},
		{"1RS 2RS 3RS 4RS", []int{1, 1, 1, 1}},
		{"1 2S 3 4R 5", []int{0, 1, 1, 1, 0}},
		{"1 2R 3 4S 5", []int{0, 0, -1, 0, 0}},
		{"1 2R 3S 4 5R 6R", []int{1 + 1, 1 + 1, 2, 2, 2, 1}},
		{"1 2S 3 4S 5R 6 7R 8", []int{0, 1, 1, 2, 2, 1, 1, 0}},
	} {
		for i, want := range x.want {
			expectLevel(t, steps(t, x.path), i+1, want)
		}
	}
}

// P15.1: From

func TestFromWhatIsNotThere(t *testing.T) {
	for _, p := range []string{"", "5", "5R 4S", "5 4RS 3", "1 2 3 4 5", "5S 5R 5"} {
		for _, node := range append([]int{6, 7, 12, 50, 55}, strays...) {
			expectSeen(t, steps(t, p), node, "")
			expectLevel(t, steps(t, p), node, 0)
		}
	}
}

func TestEmptyPaths(t *testing.T) {
	long := steps(t, "5R 4S 3")
	for _, p := range [][]api.Step{nil, {}, long[:0], long[1:1], long[3:]} {
		for _, node := range append([]int{5, 4, 3}, strays...) {
			expectSeen(t, p, node, "")
			expectLevel(t, p, node, 0)
		}
	}
}

func TestTheNodeItselfIsSeen(t *testing.T) {
	all := []string{"", "R", "S", "RS"}
	for _, ahead := range all {
		for _, own := range all {
			for _, behind := range all {
				expectSeen(t, steps(t, "5"+own), 5, "5")
				first := From(steps(t, "5"+own+" 3"+behind), 5)
				last := From(steps(t, "4"+ahead+" 5"+own), 5)
				middle := From(steps(t, "4"+ahead+" 5"+own+" 3"+behind), 5)
				if len(first) == 0 || first[0] != 5 {
					t.Error("first", own, behind, first)
				}
				if len(last) == 0 || last[len(last)-1] != 5 {
					t.Error("last", ahead, own, last)
				}
				if n := len(last); len(middle) != n-1+len(first) || middle[n-1] != 5 {
					t.Error("middle", ahead, own, behind, middle)
				}
			}
		}
	}
}

// What is seen ahead of the place of 5; what stands there itself, and behind it, doesn't matter to this walk.
func TestTheWalkBack(t *testing.T) {
	for _, x := range []struct{ what, ahead, seen string }{
		{"nothing ahead", "", ""},
		{"without closed trees", "9 8 7", "9 8 7"},

		{"a root next to the place", "9 8 7R", ""},
		{"a root further on", "9 8R 7", "7"},
		{"a root at the end", "9R 8 7", "8 7"},
		{"two roots", "9R 8 7R", ""},
		{"a root, then its slot", "9 8S 7R", "9"},
		{"a root, then its slot further on", "10 9 8S 7 6R", "10 9"},
		{"a root, its slot, a root", "12 11R 10 9S 8R", "10"},
		{"a root, its slot, a root, its slot", "13 12S 11R 10 9S 8R", "13 10"},
		{"two roots, one slot", "12 11 10 9S 8R 7R", ""},
		{"two roots, two slots", "12 11S 10 9S 8R 7R", "12"},
		{"two roots, a slot, a root, two slots", "14 13S 12S 11R 10 9S 8R 7R", "14"},
		{"two roots, a slot, a root, a slot", "14S 13R 12S 11 10R 9R", ""},

		{"a slot lets level and limit fall", "9 8S 7", "9 8 7"},
		{"a slot, then a root: at the first level nothing is seen", "9 8R 7S", "7"},
		{"a slot, further on a root", "12 11R 10 9 8S 7", "10 9 8 7"},
		{"a slot, a root, its slot", "10 9S 8R 7S", "10 7"},
		{"a slot, a root, its slot, a root", "13 12R 11 10S 9R 8S", "11 8"},
		{"two slots", "9 8S 7S", "9 8 7"},
		{"two slots, a root", "9 8R 7S 6S", "7 6"},
		{"two slots, two roots", "9R 8R 7S 6S", "7 6"},
		{"two slots, a root, its slot", "10 9S 8R 7S 6S", "10 7 6"},
		{"three slots, a root, its slot, a root", "12 11R 10S 9R 8S 7S 6S", "8 7 6"},
		{"a root, its slot, a slot, a root", "12 11R 10S 9S 8R", "10"},

		{"both next to the place", "9 8 7RS", "9 8"},
		{"both further on", "9 8RS 7", "9 7"},
		{"both at the end", "9RS 8 7", "8 7"},
		{"both at all", "9RS 8RS 7RS", ""},
		{"a slot, then both", "9 8RS 7S", "9 7"},
		{"a root, then both", "9 8RS 7R", ""},
		{"a root, both, a slot", "10 9S 8RS 7R", "10"},
		{"both, a root", "9 8R 7RS", ""},
		{"both, a slot", "9 8S 7RS", "9 8"},
		{"both, a slot, a root", "10 9R 8S 7RS", "8"},

		{"one node twice, of which the nearer one is seen", "9R 8 9", "8 9"},
		{"one node twice, of which the further one is seen", "9 8S 9R", "9"},
		{"one node twice, seen", "9 8 9", "9 8 9"},
		{"the node itself, seen", "5 8", "5 8"},
		{"the node itself, not seen", "5R 8", "8"},
		{"the node itself, seen beside the place", "9R 5S", "5"},
	} {
		t.Run(x.what, func(t *testing.T) {
			for _, own := range []string{"", "R", "S", "RS"} {
				for _, behind := range []string{"", " 1", " 2R 1", " 2S 1S", " 3RS 2R 1R", " 3R 2S 1RS"} {
					p := steps(t, x.ahead+" 5"+own+behind)
					got, at := From(p, 5), len(strings.Fields(x.seen))
					if len(got) <= at || list(got[:at]) != x.seen || got[at] != 5 {
						t.Errorf("From(%s, 5) = %v, where %s is seen ahead of 5", text(p), got, x.seen)
					}
				}
			}
		})
	}
}

// What is seen behind the place of 5; what stands there itself, and ahead of it, doesn't matter to this walk.
func TestTheWalkOn(t *testing.T) {
	for _, x := range []struct{ what, behind, seen string }{
		{"nothing behind", "", ""},
		{"without closed trees", "7 8 9", "7 8 9"},

		{"a slot next to the place", "7S 8 9", ""},
		{"a slot further on", "7 8S 9", "7"},
		{"a slot at the end", "7 8 9S", "7 8"},
		{"two slots", "7S 8 9S", ""},
		{"a slot, then its root", "7S 8R 9", "9"},
		{"a slot, then its root further on", "6S 7 8R 9 10", "9 10"},
		{"a slot, its root, a slot", "8S 9R 10 11S 12", "10"},
		{"a slot, its root, a slot, its root", "8S 9R 10 11S 12R 13", "10 13"},
		{"two slots, one root", "7S 8S 9R 10 11 12", ""},
		{"two slots, two roots", "7S 8S 9R 10 11R 12", "12"},
		{"two slots, a root, a slot, two roots", "7S 8S 9R 10 11S 12R 13R 14", "14"},
		{"two slots, a root, a slot, a root", "9S 10S 11 12R 13S 14R", ""},

		{"a root lets level and limit fall", "7 8R 9", "7 8 9"},
		{"a root, then a slot: at the first level nothing is seen", "7R 8S 9", "7"},
		{"a root, further on a slot", "7 8R 9 10 11S 12", "7 8 9 10"},
		{"a root, a slot, its root", "7R 8S 9R 10", "7 10"},
		{"a root, a slot, its root, a slot", "8R 9S 10R 11 12S 13", "8 11"},
		{"two roots", "7R 8R 9", "7 8 9"},
		{"two roots, a slot", "6R 7R 8S 9", "6 7"},
		{"two roots, two slots", "6R 7R 8S 9S", "6 7"},
		{"two roots, a slot, its root", "6R 7R 8S 9R 10", "6 7 10"},
		{"three roots, a slot, its root, a slot", "6R 7R 8R 9S 10R 11S 12", "6 7 8"},
		{"a slot, its root, a root, a slot", "8S 9R 10R 11S 12", "10"},

		{"both next to the place", "7RS 8 9", "8 9"},
		{"both further on", "7 8RS 9", "7 9"},
		{"both at the end", "7 8 9RS", "7 8"},
		{"both at all", "7RS 8RS 9RS", ""},
		{"a root, then both", "7R 8RS 9", "7 9"},
		{"a slot, then both", "7S 8RS 9", ""},
		{"a slot, both, a root", "7S 8RS 9R 10", "10"},
		{"both, a slot", "7RS 8S 9", ""},
		{"both, a root", "7RS 8R 9", "8 9"},
		{"both, a root, a slot", "7RS 8R 9S 10", "8"},

		{"one node twice, of which the nearer one is seen", "9 8 9S", "9 8"},
		{"one node twice, of which the further one is seen", "9S 8R 9", "9"},
		{"one node twice, seen", "9 8 9", "9 8 9"},
	} {
		t.Run(x.what, func(t *testing.T) {
			for _, own := range []string{"", "R", "S", "RS"} {
				for _, ahead := range []string{"", "1 ", "1 2R ", "1R 2S ", "1S 2S 3RS ", "1RS 2S 3R ", "5 ", "5R 5S "} {
					p := steps(t, ahead+"5"+own+" "+x.behind)
					got, count := From(p, 5), len(strings.Fields(x.seen))
					at := len(got) - count - 1
					if at < 0 || list(got[at+1:]) != x.seen || got[at] != 5 {
						t.Errorf("From(%s, 5) = %v, where %s is seen behind 5", text(p), got, x.seen)
					}
				}
			}
		})
	}
}

func TestBothWalks(t *testing.T) {
	for _, x := range []struct {
		what, path string
		node       int
		want       string
	}{
		{"each from the first level", "9 8R 7 5 3 2S 1", 5, "7 5 3"},
		{"each with a limit of its own", "9 8 7S 6 5 4 3R 2 1", 5, "9 8 7 6 5 4 3 2 1"},
		{"each ends in another tree", "9R 8 7S 5 3R 2 1S", 5, "8 7 5 3 2"},
		{"a tree on each side", "9 8S 7R 5 3S 2R 1", 5, "9 5 1"},
		{"the order is the path's", "2 9 1 8 5 7 3 6 4", 5, "2 9 1 8 5 7 3 6 4"},
		{"the order is the path's, with closed trees", "2 9S 1R 8 5 7S 3R 6 4S", 5, "2 8 5 6"},
		{"of three entries' node the last one's place", "5S 4R 5 3S 2R 5R 1", 5, "5 5 1"},
		{"one node ahead and behind, of which one is seen", "9R 8 5 7 9", 5, "8 5 7 9"},
		{"one node ahead and behind, of which the other one is seen", "9 8 5 7 9S", 5, "9 8 5 7"},
		{"from the first entry", "9 8S 7R 5 3S 2R 1", 9, "9 5 1"},
		{"from the last entry", "9 8S 7R 5 3S 2R 1", 1, "9 5 1"},
		{"from within the tree ahead", "9 8S 7R 5 3S 2R 1", 8, "9 8 7 5 1"},
		{"from the root of the tree behind", "9 8S 7R 5 3S 2R 1", 2, "9 5 3 2 1"},
	} {
		t.Run(x.what, func(t *testing.T) { expectSeen(t, steps(t, x.path), x.node, x.want) })
	}
}

// Odd numbers are an entry's as well as others.
func TestOddNodes(t *testing.T) {
	for _, node := range strays {
		p := []api.Step{{Node: node}, {Node: 9, ClosedSlot: true}, {Node: 8, ClosedRoot: true}, {Node: node, ClosedRoot: true}, {Node: 7}}
		expectSeen(t, p, node, list([]int{node, node, 7}))
		expectSeen(t, p, 9, list([]int{node, 9, 8, node, 7}))
		expectSeen(t, p, 7, "7")
		expectLevel(t, p, node, 1)
		expectLevel(t, p[:3], node, 0)
	}
}

// An entry's Target and Related are asked nowhere.
func TestWhatElseAnEntryHas(t *testing.T) {
	for _, text := range []string{"4", "9 8S 7R 5 3S 2R 1", "5R 4 5S", "1RS 2RS 3RS"} {
		plain := steps(t, text)
		for _, odd := range append([]int{1, 2, 5, 9, 44}, strays...) {
			p := slices.Clone(plain)
			for i := range p {
				p[i].Target, p[i].Related = odd, -odd
			}
			for node := range 10 {
				expectSeen(t, p, node, list(From(plain, node)))
				expectLevel(t, p, node, Level(plain, node))
			}
			if !slices.Contains(strings.Split(text, " "), "44") {
				expectSeen(t, p, 44, "")
			}
		}
	}
}

// P15.2: paths of forests

var (
	document = api.Node{Kind: api.Document}
	element  = api.Node{Kind: api.Element}
	slotted  = api.Node{Kind: api.Element, Slot: true}
	opened   = api.Node{Kind: api.Shadow, Mode: api.Open}
	closed   = api.Node{Kind: api.Shadow, Mode: api.Closed}
)

// shadow is an open or a closed shadow root.
func shadow(shut bool) api.Node {
	if shut {
		return closed
	}
	return opened
}

// rooms gives a forest with shadow trees that are closed as it is told; 6 and 8 are slots:
//
//	1 (2 (9, 10))
//	    3 (4 (8)), the shadow tree of 2
//	        5 (6, 7), the shadow tree of 4
//	    11 (14), the shadow tree of 10
//	    12 (13), the shadow tree of 9
//
// 9 is shown in 8, and 8 in 6; 10 wants no slot that there is.
func rooms(t *testing.T, outer, inner, beside, within bool) *arena.Forest {
	t.Helper()
	f := grow(t,
		document, element, shadow(outer), element, shadow(inner), slotted, element, slotted, element,
		api.Node{Kind: api.Element, Want: "no"}, shadow(beside), shadow(within), element, element)
	put(t, f, 1, 2)
	put(t, f, 2, 9, 10)
	put(t, f, 3, 4)
	put(t, f, 4, 8)
	put(t, f, 5, 6, 7)
	put(t, f, 11, 14)
	put(t, f, 12, 13)
	for _, pair := range [][2]int{{2, 3}, {4, 5}, {10, 11}, {9, 12}} {
		tie(t, f, pair[0], pair[1])
	}
	return f
}

func TestClosedTreesBesideAndWithinOneAnother(t *testing.T) {
	f := rooms(t, true, true, true, true)
	for _, x := range []struct {
		what   string
		target int
		path   string
		seen   map[int]string
	}{
		{"from a tree whose host is shown in two others", 13, "13 12R 9 8S 6S 5R 4 3R 2 1", map[int]string{
			13: "13 12 9 2 1", 12: "13 12 9 2 1", 9: "9 2 1", 8: "9 8 4 3 2 1", 6: "9 8 6 5 4 3 2 1",
			5: "9 8 6 5 4 3 2 1", 4: "9 8 4 3 2 1", 3: "9 8 4 3 2 1", 2: "9 2 1", 1: "9 2 1", 14: "",
		}},
		{"from a child that is shown in two trees", 9, "9 8S 6S 5R 4 3R 2 1", map[int]string{
			9: "9 2 1", 8: "9 8 4 3 2 1", 6: "9 8 6 5 4 3 2 1", 5: "9 8 6 5 4 3 2 1", 4: "9 8 4 3 2 1",
			3: "9 8 4 3 2 1", 2: "9 2 1", 1: "9 2 1", 13: "",
		}},
		{"from a slot that is shown in a tree", 8, "8 6S 5R 4 3R 2 1", map[int]string{
			8: "8 4 3 2 1", 6: "8 6 5 4 3 2 1", 5: "8 6 5 4 3 2 1", 4: "8 4 3 2 1", 3: "8 4 3 2 1", 2: "2 1", 1: "2 1", 9: "",
		}},
		{"from two trees", 7, "7 5R 4 3R 2 1", map[int]string{
			7: "7 5 4 3 2 1", 5: "7 5 4 3 2 1", 4: "4 3 2 1", 3: "4 3 2 1", 2: "2 1", 1: "2 1", 6: "",
		}},
		{"from a tree beside", 14, "14 11R 10 2 1", map[int]string{14: "14 11 10 2 1", 11: "14 11 10 2 1", 10: "10 2 1", 2: "10 2 1", 1: "10 2 1"}},
		{"from what is in no tree", 10, "10 2 1", map[int]string{10: "10 2 1", 2: "10 2 1", 1: "10 2 1"}},
	} {
		t.Run(x.what, func(t *testing.T) {
			p := path.Make(f, x.target, 0, true)
			if text(p) != x.path {
				t.Fatalf("the path is %s", text(p))
			}
			for node, want := range x.seen {
				expectSeen(t, p, node, want)
			}
			expectNotHidden(t, f, p)
		})
	}
}

func TestRoomsWithSomeOfThemClosed(t *testing.T) {
	for set := range 16 {
		f := rooms(t, set&1 > 0, set&2 > 0, set&4 > 0, set&8 > 0)
		before := fmt.Sprintf("%+v", f.All())
		for target := 1; target <= f.Len(); target++ {
			for related := 0; related <= f.Len(); related++ {
				for _, composed := range []bool{false, true} {
					p := path.Make(f, target, related, composed)
					expectNotHidden(t, f, p)
					if set == 0 {
						expectAllSeen(t, p)
					}
				}
			}
		}
		if fmt.Sprintf("%+v", f.All()) != before {
			t.Error("asking changed the forest")
		}
	}
}

// expectNotHidden looks at P15.2 of a forest's path. What isn't hidden is also seen, since trees are entered and left like brackets.
func expectNotHidden(t *testing.T, f *arena.Forest, p []api.Step) {
	t.Helper()
	for _, s := range p {
		var want []int
		for _, other := range p {
			if !shade.Hidden(f, other.Node, s.Node) {
				want = append(want, other.Node)
			}
		}
		expectSeen(t, p, s.Node, list(want))
		// The level tells how many closed trees hold the node that don't hold the last one.
		last := p[len(p)-1].Node
		expectLevel(t, p, s.Node, len(shade.Closed(f, s.Node))-len(shade.Closed(f, last))+around(f, last))
	}
}

// around tells 1 of a closed Shadow: at a path's end it is counted, too.
func around(f *arena.Forest, id int) int {
	if n, _ := f.Node(id); n.Mode == api.Closed {
		return 1
	}
	return 0
}

func expectAllSeen(t *testing.T, p []api.Step) {
	t.Helper()
	var all []int
	for _, s := range p {
		all = append(all, s.Node)
	}
	for _, s := range p {
		expectSeen(t, p, s.Node, list(all))
	}
}

// P15.2: what is seen is a part of the path

func TestWhatIsSeenIsAPartOfThePath(t *testing.T) {
	for _, p := range []string{"5", "9 8S 7R 5 3S 2R 1", "1R 2R 3R", "1S 2S 3S", "1RS 2RS 3RS", "5R 4 5S 4R 5", "0 -1R 0S -1"} {
		for node := -2; node <= 10; node++ {
			expectPart(t, steps(t, p), node)
		}
	}
}

// expectPart looks at P15.2: what is seen is a part of the path, in its order, and has the node.
func expectPart(t *testing.T, p []api.Step, node int) {
	t.Helper()
	got := From(p, node)
	there := slices.ContainsFunc(p, func(s api.Step) bool { return s.Node == node })
	if slices.Contains(got, node) != there || !there && len(got) > 0 {
		t.Fatalf("From(%s, %d) = %v", text(p), node, got)
	}
	left := got
	for _, s := range p {
		if len(left) > 0 && left[0] == s.Node {
			left = left[1:]
		}
	}
	if len(left) > 0 {
		t.Fatalf("From(%s, %d) = %v isn't a part of the path", text(p), node, got)
	}
}

// Long paths

func TestLongPaths(t *testing.T) {
	const size = 1 << 18
	for _, x := range []struct {
		what               string
		entry              api.Step
		first, middle, end int
		levels             [3]int
	}{
		{"without flags", api.Step{}, size, size, size, [3]int{0, 0, 0}},
		{"roots", api.Step{ClosedRoot: true}, size, size / 2, 1, [3]int{size, size / 2, 1}},
		{"slots", api.Step{ClosedSlot: true}, 1, size/2 + 1, size, [3]int{1 - size, 1 - size/2, 0}},
		{"both", api.Step{ClosedRoot: true, ClosedSlot: true}, 1, 1, 1, [3]int{1, 1, 1}},
	} {
		t.Run(x.what, func(t *testing.T) {
			p := slices.Repeat([]api.Step{x.entry}, size)
			for i := range p {
				p[i].Node = i
			}
			for i, node := range []int{0, size / 2, size - 1} {
				if got, want := len(From(p, node)), []int{x.first, x.middle, x.end}[i]; got != want {
					t.Errorf("%d are seen from %d, not %d", got, node, want)
				}
				expectLevel(t, p, node, x.levels[i])
			}
			if len(From(p, size)) != 0 || Level(p, size) != 0 {
				t.Error("something is seen from a node that isn't there")
			}
		})
	}
}

// R4

func TestThePathStaysAsItIs(t *testing.T) {
	for _, x := range []string{"5", "9 8S 7R 5 3S 2R 1", "5R 4 5S 4R 5", "1RS 2RS 3RS 4RS"} {
		p := steps(t, x)
		before := slices.Clone(p)
		for node := range 11 {
			From(p, node)
			Level(p, node)
			if !slices.Equal(p, before) {
				t.Fatalf("asking at %d made %s of %s", node, text(p), x)
			}
		}
	}
}

func TestWhatIsBehindThePathIsNotReadOrWritten(t *testing.T) {
	long := steps(t, "9 8S 7R 5 3S 2R 7 5RS")
	before := slices.Clone(long)
	p := long[:6]
	for node := range 11 {
		expectSeen(t, p, node, list(From(slices.Clone(p), node)))
		expectLevel(t, p, node, Level(slices.Clone(p), node))
	}
	expectSeen(t, p, 5, "9 5")
	expectLevel(t, p, 7, 1)
	if !slices.Equal(long, before) {
		t.Errorf("what is behind the path became %s", text(long))
	}
}

func TestListsShareNoMemory(t *testing.T) {
	p := steps(t, "9 8S 7R 5 3 2R 1")
	for _, s := range p {
		want := list(From(p, s.Node))
		one, other := From(p, s.Node), From(p, s.Node)
		scribble(one)
		if list(other) != want {
			t.Error("writing over one list changes another one")
		}
		expectSeen(t, p, s.Node, want)
		scribble(other)
		expectSeen(t, p, s.Node, want)
	}
	if text(p) != "9 8S 7R 5 3 2R 1" {
		t.Errorf("writing over a list made %s of the path", text(p))
	}
}

// scribble writes over a list and over what lies behind its length.
func scribble(l []int) {
	l = l[:cap(l)]
	for i := range l {
		l[i] = -7
	}
}

// R6

func TestTheSameIsToldAgain(t *testing.T) {
	p := steps(t, "9R 8S 7R 5 3S 2R 5 1RS")
	answers := func() string {
		var b strings.Builder
		for node := -1; node <= 10; node++ {
			b.WriteString(list(From(p, node)) + " " + strconv.Itoa(Level(p, node)) + "\n")
		}
		return b.String()
	}
	first := answers()
	if answers() != first {
		t.Error("the second time something else is told")
	}
	other := steps(t, "1 5R")
	expectSeen(t, other, 5, "1 5")
	if answers() != first {
		t.Error("another path changes what is told")
	}
}

// What a path was when it was asked doesn't matter to what is told of it later.
func TestWhatIsSeenGoesWithThePath(t *testing.T) {
	p := steps(t, "9 8S 7R 5")
	expectSeen(t, p, 5, "9 5")
	expectLevel(t, p, 7, 1)
	p[2].ClosedRoot = false
	expectSeen(t, p, 5, "9 8 7 5")
	expectLevel(t, p, 7, 0)
	p[1].Node = 5
	expectSeen(t, p[:3], 5, "9 5 7")
	expectSeen(t, p, 8, "")
}

// grow gives a forest of these nodes.
func grow(t *testing.T, nodes ...api.Node) *arena.Forest {
	t.Helper()
	f := arena.New()
	for i, n := range nodes {
		if id, e := f.Make(n); id != i+1 || e != ok {
			t.Fatal(id, e)
		}
	}
	return f
}

func put(t *testing.T, f *arena.Forest, parent int, kids ...int) {
	t.Helper()
	if e := f.Put(parent, kids...); e != ok {
		t.Fatalf("Put(%d, %v): %v", parent, kids, e)
	}
}

func tie(t *testing.T, f *arena.Forest, host, root int) {
	t.Helper()
	if e := f.Tie(host, root); e != ok {
		t.Fatalf("Tie(%d, %d): %v", host, root, e)
	}
}

func expectSeen(t *testing.T, p []api.Step, node int, want string) {
	t.Helper()
	if got := list(From(p, node)); got != want {
		t.Fatalf("From(%s, %d) = %s\nnot %s", text(p), node, got, want)
	}
}

func expectLevel(t *testing.T, p []api.Step, node, want int) {
	t.Helper()
	if got := Level(p, node); got != want {
		if len(p) > 100 {
			p = p[:100]
		}
		t.Fatalf("Level(%s, %d) = %d, not %d", text(p), node, got, want)
	}
}
