package walk

import (
	"fmt"
	"iter"
	"math"
	"slices"
	"strconv"
	"strings"
	"testing"

	"towncrier/api"
	"towncrier/arena"
	"towncrier/path"
)

const ok = api.OK

// strays are numbers of which no forest has a node, and no path a place.
var strays = []int{0, -1, -2, -128, 129, 1 << 31, 1 << 32, 1<<32 + 1, math.MaxInt, math.MinInt, math.MinInt + 1}

// A path is written as its entries: X has a target, a point has none. Turns are written each as its place and the phase: c for Capturing, t for AtTarget, b for Bubbling; in capitals on the capturing way.

// steps gives the path of a text.
func steps(text string) []api.Step {
	var p []api.Step
	for at, entry := range text {
		s := api.Step{Node: at + 1}
		if entry == 'X' {
			s.Target = at + 1
		}
		p = append(p, s)
	}
	return p
}

// text writes turns.
func text(turns []api.Turn) string {
	phases := map[int]string{api.None: "n", api.Capturing: "c", api.AtTarget: "t", api.Bubbling: "b"}
	var l []string
	for _, turn := range turns {
		phase := phases[turn.Phase]
		if phase == "" {
			phase = "?"
		}
		if turn.Capture {
			phase = strings.ToUpper(phase)
		}
		l = append(l, strconv.Itoa(turn.At)+phase)
	}
	return strings.Join(l, " ")
}

func TestTheChaptersExample(t *testing.T) {
	for _, bubbles := range []bool{false, true} {
		p := []api.Step{{Node: 7, Target: 7}}
		want := []api.Turn{{At: 0, Phase: api.AtTarget, Capture: true}, {At: 0, Phase: api.AtTarget}}
		if got := Turns(p, bubbles); !slices.Equal(got, want) {
			t.Errorf("Turns of one entry, bubbles %v: %+v", bubbles, got)
		}
		if got := slices.Collect(Each(p, bubbles)); !slices.Equal(got, want) {
			t.Errorf("Each of one entry, bubbles %v: %+v", bubbles, got)
		}
	}
}

// P16.1: Turns

// paths tells turns of paths: on the capturing way, behind it if the event bubbles, and if it doesn't.
var paths = []struct{ what, path, capturing, bubbling, otherwise string }{
	{"an empty path", "", "", "", ""},
	{"one entry with a target", "X", "0T", "0t", "0t"},
	{"one entry without a target", ".", "0C", "0b", ""},

	{"two entries with targets", "XX", "1T 0T", "0t 1t", "0t 1t"},
	{"two entries without targets", "..", "1C 0C", "0b 1b", ""},
	{"a target first of two", "X.", "1C 0T", "0t 1b", "0t"},
	{"a target last of two", ".X", "1T 0C", "0b 1t", "1t"},

	{"all with targets", "XXXXX", "4T 3T 2T 1T 0T", "0t 1t 2t 3t 4t", "0t 1t 2t 3t 4t"},
	{"none with a target", ".....", "4C 3C 2C 1C 0C", "0b 1b 2b 3b 4b", ""},
	{"without a target first", ".XXXX", "4T 3T 2T 1T 0C", "0b 1t 2t 3t 4t", "1t 2t 3t 4t"},
	{"without a target last", "XXXX.", "4C 3T 2T 1T 0T", "0t 1t 2t 3t 4b", "0t 1t 2t 3t"},
	{"without a target first and last", ".XXX.", "4C 3T 2T 1T 0C", "0b 1t 2t 3t 4b", "1t 2t 3t"},
	{"without a target between others", "XX.XX", "4T 3T 2C 1T 0T", "0t 1t 2b 3t 4t", "0t 1t 3t 4t"},
	{"several without a target between others", "X...X", "4T 3C 2C 1C 0T", "0t 1b 2b 3b 4t", "0t 4t"},
	{"a target first alone", "X....", "4C 3C 2C 1C 0T", "0t 1b 2b 3b 4b", "0t"},
	{"a target last alone", "....X", "4T 3C 2C 1C 0C", "0b 1b 2b 3b 4t", "4t"},
	{"a target between others alone", "..X..", "4C 3C 2T 1C 0C", "0b 1b 2t 3b 4b", "2t"},
	{"by turns", "X.X.X", "4T 3C 2T 1C 0T", "0t 1b 2t 3b 4t", "0t 2t 4t"},
	{"by turns, the other way round", ".X.X.", "4C 3T 2C 1T 0C", "0b 1t 2b 3t 4b", "1t 3t"},
	{"two by two", "XX..XX.", "6C 5T 4T 3C 2C 1T 0T", "0t 1t 2b 3b 4t 5t 6b", "0t 1t 4t 5t"},
	{"more than ten", "X..........X", "11T 10C 9C 8C 7C 6C 5C 4C 3C 2C 1C 0T", "0t 1b 2b 3b 4b 5b 6b 7b 8b 9b 10b 11t", "0t 11t"},
}

func TestTurns(t *testing.T) {
	for _, x := range paths {
		t.Run(x.what, func(t *testing.T) {
			expectTurns(t, steps(x.path), true, strings.TrimSpace(x.capturing+" "+x.bubbling))
			expectTurns(t, steps(x.path), false, strings.TrimSpace(x.capturing+" "+x.otherwise))
		})
	}
}

func TestEmptyAndNilPaths(t *testing.T) {
	for _, p := range [][]api.Step{nil, {}, steps("X.X")[:0], steps("X.X")[3:]} {
		for _, bubbles := range []bool{false, true} {
			expectTurns(t, p, bubbles, "")
			for turn := range Each(p, bubbles) {
				t.Errorf("an empty path has the turn %+v", turn)
			}
		}
		for _, at := range append([]int{1, 2, 3}, strays...) {
			expectTarget(t, p, at, 0)
		}
		expectClears(t, arena.New(), p, false)
		expectClears(t, house(t), p, false)
	}
}

// Any number but 0 is a target.
func TestTargetsOfAllNumbers(t *testing.T) {
	for _, target := range append([]int{1, 2, 64, 128}, strays...) {
		phases := [2]string{"t", "T"}
		if target == 0 {
			phases = [2]string{"b", "C"}
		}
		for _, bubbles := range []bool{false, true} {
			p := []api.Step{{Node: 5}, {Node: 6, Target: target}, {Node: 7}}
			last := " 1" + phases[0]
			if bubbles {
				last = " 0b" + last + " 2b"
			} else if target == 0 {
				last = ""
			}
			expectTurns(t, p, bubbles, "2C 1"+phases[1]+" 0C"+last)
		}
	}
}

// An entry's Node, Related, ClosedRoot and ClosedSlot don't matter to the turns.
func TestWhatElseAnEntryHas(t *testing.T) {
	for _, x := range paths {
		for _, odd := range append([]int{1, 2, 3}, strays...) {
			p := steps(x.path)
			for i := range p {
				p[i].Node, p[i].Related = odd, -odd
				p[i].ClosedRoot, p[i].ClosedSlot = i%2 == odd&1, i%3 == odd&1
			}
			expectTurns(t, p, true, strings.TrimSpace(x.capturing+" "+x.bubbling))
			expectTurns(t, p, false, strings.TrimSpace(x.capturing+" "+x.otherwise))
			for at := -1; at <= len(p); at++ {
				expectTarget(t, p, at, Target(steps(x.path), at))
			}
		}
	}
}

// P16.1: Each

// gather goes through turns until there are so many; -1: through all of them.
func gather(turns iter.Seq[api.Turn], most int) []api.Turn {
	var l []api.Turn
	if most == 0 {
		return l
	}
	for turn := range turns {
		l = append(l, turn)
		if len(l) == most {
			break
		}
	}
	return l
}

// Ended at the first turn, at each one on either way, at the last one, and not at all, or not begun.
func TestEachEndsWhereItIsEnded(t *testing.T) {
	for _, x := range paths {
		for _, bubbles := range []bool{false, true} {
			all := Turns(steps(x.path), bubbles)
			for most := range len(all) + 2 {
				want := all[:min(most, len(all))]
				if got := gather(Each(steps(x.path), bubbles), most); !slices.Equal(got, want) {
					t.Errorf("the first %d turns of %s, bubbles %v, are %s, not %s", most, x.path, bubbles, text(got), text(want))
				}
			}
		}
	}
}

// After it was told to end, a function that is handed in isn't called again.
func TestEachCallsNoMoreThanItIsAsked(t *testing.T) {
	for _, x := range paths {
		for _, bubbles := range []bool{false, true} {
			all := len(Turns(steps(x.path), bubbles))
			for most := 1; most <= all+1; most++ {
				calls := 0
				Each(steps(x.path), bubbles)(func(api.Turn) bool {
					calls++
					return calls < most
				})
				if calls != min(most, all) {
					t.Errorf("of the %d turns of %s, bubbles %v, ended at %d, %d are told", all, x.path, bubbles, most, calls)
				}
			}
		}
	}
}

func TestEachTwice(t *testing.T) {
	for _, x := range paths {
		for _, bubbles := range []bool{false, true} {
			all := Turns(steps(x.path), bubbles)
			for most := range len(all) + 2 {
				turns := Each(steps(x.path), bubbles)
				first, second, third := gather(turns, most), gather(turns, -1), gather(turns, -1)
				if !slices.Equal(first, all[:min(most, len(all))]) || !slices.Equal(second, all) || !slices.Equal(third, all) {
					t.Errorf("%s, bubbles %v: ended at %d: %s, then %s, then %s", x.path, bubbles, most, text(first), text(second), text(third))
				}
			}
		}
	}
}

func TestEachWithinEach(t *testing.T) {
	for _, x := range paths {
		for _, bubbles := range []bool{false, true} {
			all := Turns(steps(x.path), bubbles)
			turns := Each(steps(x.path), bubbles)
			var outer []api.Turn
			for turn := range turns {
				// Within the first turn none is gone through, within the next one the first one, and so on.
				most := len(outer)
				if inner := gather(turns, most); !slices.Equal(inner, all[:most]) {
					t.Errorf("%s, bubbles %v: within %d turns %s", x.path, bubbles, most, text(inner))
				}
				if inner := gather(turns, -1); !slices.Equal(inner, all) {
					t.Errorf("%s, bubbles %v: within %d turns %s", x.path, bubbles, most, text(inner))
				}
				outer = append(outer, turn)
			}
			if !slices.Equal(outer, all) {
				t.Errorf("%s, bubbles %v: around others %s", x.path, bubbles, text(outer))
			}
		}
	}
}

// What was asked for of one path says nothing of another one.
func TestEachOfSeveralPaths(t *testing.T) {
	one, other := Each(steps("X..X"), true), Each(steps(".X"), false)
	for range one {
		if got := text(gather(other, -1)); got != "1T 0C 1t" {
			t.Errorf("within the turns of another path: %s", got)
		}
	}
	for range other {
		if got := text(gather(one, -1)); got != "3T 2C 1C 0T 0t 1b 2b 3t" {
			t.Errorf("within the turns of another path: %s", got)
		}
	}
}

// A path that is handed in isn't kept: the turns are told as they were when they were asked for.
func TestEachKeepsThePathAsItWas(t *testing.T) {
	for _, x := range paths {
		for _, bubbles := range []bool{false, true} {
			all := Turns(steps(x.path), bubbles)
			p := steps(x.path)
			turns := Each(p, bubbles)
			turnOver(p)
			if got := gather(turns, -1); !slices.Equal(got, all) {
				t.Errorf("%s, bubbles %v: after the path is changed %s", x.path, bubbles, text(got))
			}
			p = steps(x.path)
			var got []api.Turn
			for turn := range Each(p, bubbles) {
				turnOver(p)
				got = append(got, turn)
			}
			if !slices.Equal(got, all) {
				t.Errorf("%s, bubbles %v: while the path is changed %s", x.path, bubbles, text(got))
			}
		}
	}
}

// turnOver gives each entry that has no target one, and takes it from the others.
func turnOver(p []api.Step) {
	for i, s := range p {
		p[i].Target = 0
		if s.Target == 0 {
			p[i].Target = 9
		}
	}
}

// P16.1: Target

// targets gives a path whose entries have these targets, and no other number.
func targets(list ...int) []api.Step {
	var p []api.Step
	for _, target := range list {
		p = append(p, api.Step{Target: target})
	}
	return p
}

func TestTarget(t *testing.T) {
	for _, x := range []struct {
		what    string
		targets []int
		want    []int
	}{
		{"the only entry's own", []int{7}, []int{7}},
		{"none at the only entry", []int{0}, []int{0}},
		{"each place's own", []int{7, 8, 9}, []int{7, 8, 9}},
		{"that of the entry ahead", []int{7, 0}, []int{7, 7}},
		{"that of an entry further ahead", []int{7, 0, 0, 0}, []int{7, 7, 7, 7}},
		{"the last one ahead of several", []int{7, 8, 9, 0, 0}, []int{7, 8, 9, 9, 9}},
		{"the last one ahead, which isn't the greatest", []int{9, 8, 7, 0}, []int{9, 8, 7, 7}},
		{"the last one ahead, and then another one", []int{7, 0, 8, 0, 9, 0}, []int{7, 7, 8, 8, 9, 9}},
		{"none ahead", []int{0, 0, 0}, []int{0, 0, 0}},
		{"none ahead, and then one", []int{0, 0, 7}, []int{0, 0, 7}},
		{"none ahead, and then one, and then others", []int{0, 7, 0, 8}, []int{0, 7, 7, 8}},
		{"those behind don't count", []int{7, 0, 8, 9}, []int{7, 7, 8, 9}},
		{"the same one twice", []int{7, 0, 7, 0}, []int{7, 7, 7, 7}},
		{"one, another one, the first one again", []int{7, 8, 7, 0}, []int{7, 8, 7, 7}},
		{"one below 0", []int{-7}, []int{-7}},
		{"one below 0 ahead", []int{-7, 0}, []int{-7, -7}},
		{"one below 0 behind one above", []int{7, -7, 0}, []int{7, -7, -7}},
		{"one above 0 behind one below", []int{-7, 7, 0}, []int{-7, 7, 7}},
		{"the greatest and the least one", []int{math.MaxInt, 0, math.MinInt, 0}, []int{math.MaxInt, math.MaxInt, math.MinInt, math.MinInt}},
		{"numbers beyond a forest's", []int{129, 0, 1 << 40, 0}, []int{129, 129, 1 << 40, 1 << 40}},
	} {
		t.Run(x.what, func(t *testing.T) {
			p := targets(x.targets...)
			for at, want := range x.want {
				expectTarget(t, p, at, want)
			}
		})
	}
}

func TestTargetOfNoPlace(t *testing.T) {
	for _, list := range [][]int{nil, {7}, {0}, {7, 8}, {7, 0}, {0, 7}, {7, 0, 8, 0}, slices.Repeat([]int{7}, 20)} {
		p := targets(list...)
		size := len(p)
		for _, at := range append([]int{size, size + 1, size + 2, 2*size + 1, -size, -size - 1, size + 1<<32}, strays...) {
			if at < 0 || at >= size {
				expectTarget(t, p, at, 0)
			}
		}
	}
}

// A place's target is an entry's of which a turn tells AtTarget.
func TestTargetFitsTheTurns(t *testing.T) {
	for _, x := range paths {
		p := steps(x.path)
		for turn := range Each(p, true) {
			own := Target(p, turn.At) == p[turn.At].Node
			if own != (turn.Phase == api.AtTarget) {
				t.Errorf("of %s the target at %d is %d, the phase %d", x.path, turn.At, Target(p, turn.At), turn.Phase)
			}
		}
	}
}

// P16.2

var (
	document = api.Node{Kind: api.Document}
	element  = api.Node{Kind: api.Element}
	opened   = api.Node{Kind: api.Shadow, Mode: api.Open}
	closed   = api.Node{Kind: api.Shadow, Mode: api.Closed}
	fragment = api.Node{Kind: api.Fragment}
	slotted  = api.Node{Kind: api.Element, Slot: true}
)

// house gives the forest that most tests look at:
//
//	9 (2 (24, 10))
//	    14 (17 (3 (19))), the open shadow tree of 24
//	        1 (16), the closed shadow tree of 17
//	21 (12)
//	    8 (23), the closed shadow tree of 12
//	11 (20)
//	6 (18 (22 (5))), an open shadow tree without a host
//	    13 (25), the open shadow tree of 5
//	15 (7), a closed shadow tree without a host
//	4, an open shadow root without a host
//
// 9 is a document, 21 is a fragment, the others are elements. The numbers don't tell who is above whom.
func house(t *testing.T) *arena.Forest {
	t.Helper()
	f := grow(t,
		closed, element, element, opened, element, opened, element, closed, document, element, element, element, opened,
		opened, closed, element, element, element, element, element, fragment, element, element, element, element)
	put(t, f, 9, 2)
	put(t, f, 2, 24, 10)
	put(t, f, 14, 17)
	put(t, f, 17, 3)
	put(t, f, 3, 19)
	put(t, f, 1, 16)
	put(t, f, 21, 12)
	put(t, f, 8, 23)
	put(t, f, 11, 20)
	put(t, f, 6, 18)
	put(t, f, 18, 22)
	put(t, f, 22, 5)
	put(t, f, 13, 25)
	put(t, f, 15, 7)
	for _, pair := range [][2]int{{24, 14}, {17, 1}, {12, 8}, {5, 13}} {
		tie(t, f, pair[0], pair[1])
	}
	return f
}

// shadows tells of each node of the house whether its root is a Shadow.
var shadows = map[int]bool{
	9: false, 2: false, 24: false, 10: false, 21: false, 12: false, 11: false, 20: false,
	14: true, 17: true, 3: true, 19: true, 1: true, 16: true, 8: true, 23: true,
	6: true, 18: true, 22: true, 5: true, 13: true, 25: true, 15: true, 7: true, 4: true,
}

func TestClears(t *testing.T) {
	// Of these, 19 and 16 are below Shadows, 1 is one, and 10 and 12 aren't below one.
	for _, x := range []struct {
		what string
		p    []api.Step
		want bool
	}{
		{"the target below an open Shadow", []api.Step{{Target: 19}}, true},
		{"the target right below a Shadow", []api.Step{{Target: 17}}, true},
		{"the target below a closed Shadow", []api.Step{{Target: 16}}, true},
		{"the target is an open Shadow", []api.Step{{Target: 14}}, true},
		{"the target is a closed Shadow", []api.Step{{Target: 1}}, true},
		{"the target isn't below a Shadow", []api.Step{{Target: 10}}, false},
		{"the target below a Shadow without a host", []api.Step{{Target: 18}}, true},
		{"the target deep below a Shadow without a host", []api.Step{{Target: 5}}, true},
		{"the target below a closed Shadow without a host", []api.Step{{Target: 7}}, true},
		{"the target is a Shadow without a host", []api.Step{{Target: 6}}, true},
		{"the target is a closed Shadow without a host", []api.Step{{Target: 15}}, true},
		{"the target is a Shadow that is alone", []api.Step{{Target: 4}}, true},
		{"the target is a Document", []api.Step{{Target: 9}}, false},
		{"the target is in a Document's tree", []api.Step{{Target: 2}}, false},
		{"the target is a Fragment", []api.Step{{Target: 21}}, false},
		{"the target is an Element that is a root", []api.Step{{Target: 11}}, false},
		{"the target is in an Element's tree", []api.Step{{Target: 20}}, false},
		{"the target is a host whose root is no Shadow", []api.Step{{Target: 24}}, false},
		{"the target is a host whose root is a Fragment", []api.Step{{Target: 12}}, false},
		{"the target is a host whose root is a Shadow", []api.Step{{Target: 17}}, true},

		{"the related node below an open Shadow", []api.Step{{Target: 10, Related: 19}}, true},
		{"the related node below a closed Shadow", []api.Step{{Target: 10, Related: 16}}, true},
		{"the related node is an open Shadow", []api.Step{{Target: 10, Related: 14}}, true},
		{"the related node is a closed Shadow", []api.Step{{Target: 10, Related: 1}}, true},
		{"the related node deep below a Shadow without a host", []api.Step{{Target: 10, Related: 5}}, true},
		{"the related node is a Shadow without a host", []api.Step{{Target: 10, Related: 4}}, true},
		{"the related node isn't below a Shadow", []api.Step{{Target: 10, Related: 12}}, false},
		{"the related node is a Document", []api.Step{{Target: 10, Related: 9}}, false},
		{"the related node is a Fragment", []api.Step{{Target: 10, Related: 21}}, false},
		{"the related node is a host whose root is no Shadow", []api.Step{{Target: 10, Related: 24}}, false},
		{"the related node is a host whose root is a Shadow", []api.Step{{Target: 10, Related: 17}}, true},
		{"the related node is the target, below a Shadow", []api.Step{{Target: 19, Related: 19}}, true},
		{"the related node is the target, not below one", []api.Step{{Target: 10, Related: 10}}, false},
		{"both are below Shadows", []api.Step{{Target: 19, Related: 16}}, true},
		{"the target alone is", []api.Step{{Target: 19, Related: 10}}, true},
		{"the target is, and there is no related node", []api.Step{{Target: 19, Related: 0}}, true},
		{"the target isn't, and there is no related node", []api.Step{{Target: 10, Related: 0}}, false},

		{"the only entry has no target", []api.Step{{Node: 19}}, false},
		{"no entry has a target", []api.Step{{Node: 19}, {Node: 14}, {Node: 24}}, false},
		{"no target, and a related node below a Shadow", []api.Step{{Node: 19, Related: 19}}, false},
		{"no target, and related nodes below Shadows", []api.Step{{Node: 19, Related: 19}, {Node: 1, Related: 1}}, false},

		{"the last one's target is below a Shadow", []api.Step{{Target: 10}, {Target: 19}}, true},
		{"the last one's target isn't, the first one's is", []api.Step{{Target: 19}, {Target: 10}}, false},
		{"the last one's target isn't, the first one's related node is", []api.Step{{Target: 12, Related: 19}, {Target: 10}}, false},
		{"the last one's target isn't, all others are", []api.Step{{Target: 19, Related: 16}, {Target: 16, Related: 14}, {Target: 10, Related: 2}}, false},
		{"the last one's target is, all others aren't", []api.Step{{Target: 10, Related: 2}, {Target: 9, Related: 9}, {Target: 16, Related: 2}}, true},
		{"the last one's related node is, all others aren't", []api.Step{{Target: 10, Related: 2}, {Target: 9, Related: 9}, {Target: 2, Related: 16}}, true},
		{"the middle one is", []api.Step{{Target: 10}, {Target: 19, Related: 19}, {Target: 12}}, false},

		{"behind the one that is there are entries without targets", []api.Step{{Target: 19}, {Node: 10}, {Node: 12}}, true},
		{"behind the one that isn't there are entries without targets", []api.Step{{Target: 10}, {Node: 14}, {Node: 1}}, false},
		{"behind the one whose related node is", []api.Step{{Target: 10, Related: 19}, {Node: 2}}, true},
		{"behind two, of which the last one is", []api.Step{{Target: 10}, {Target: 19}, {Node: 2}, {Node: 9}}, true},
		{"behind two, of which the last one isn't", []api.Step{{Target: 19}, {Target: 10}, {Node: 2}, {Node: 9}}, false},
		{"the related node of an entry without a target", []api.Step{{Target: 10}, {Node: 2, Related: 19}}, false},
		{"the related nodes of entries without targets", []api.Step{{Related: 16}, {Target: 10, Related: 12}, {Related: 19}, {Related: 14}}, false},
		{"the related node of an entry without a target isn't", []api.Step{{Target: 10, Related: 19}, {Node: 2, Related: 12}}, true},
		{"entries without targets ahead", []api.Step{{Node: 10, Related: 10}, {Node: 12}, {Target: 19}}, true},

		{"the entry's node below a Shadow doesn't count", []api.Step{{Node: 19, Target: 10}}, false},
		{"the entry's node not below a Shadow doesn't count", []api.Step{{Node: 10, Target: 19}}, true},
		{"flags don't count", []api.Step{{Node: 1, Target: 10, ClosedRoot: true, ClosedSlot: true}}, false},
		{"flags of others don't count", []api.Step{{Target: 10}, {Node: 1, ClosedRoot: true}, {Node: 2, ClosedSlot: true}}, false},

		{"the target isn't there", []api.Step{{Target: 26}}, false},
		{"the target isn't there, the related node isn't below a Shadow", []api.Step{{Target: 26, Related: 10}}, false},
		{"the target isn't there, the related node is", []api.Step{{Target: 26, Related: 19}}, true},
		{"the related node isn't there", []api.Step{{Target: 10, Related: 26}}, false},
		{"the related node isn't there, the target is", []api.Step{{Target: 19, Related: 26}}, true},
		{"neither is there", []api.Step{{Target: 27, Related: 26}}, false},
		{"the last one's target isn't there, the first one's is below a Shadow", []api.Step{{Target: 19}, {Target: 26}}, false},
		{"the target below 0 hides another one", []api.Step{{Target: 19}, {Target: -1}}, false},
		{"the target below 0, the related node below a Shadow", []api.Step{{Target: -1, Related: 19}}, true},
	} {
		t.Run(x.what, func(t *testing.T) { expectClears(t, house(t), x.p, x.want) })
	}
}

func TestClearsOfAll(t *testing.T) {
	f := house(t)
	if len(shadows) != f.Len() {
		t.Fatalf("%d nodes are told of, not %d", len(shadows), f.Len())
	}
	for id, in := range shadows {
		expectClears(t, f, []api.Step{{Target: id}}, in)
		expectClears(t, f, []api.Step{{Target: 10, Related: id}}, in)
		for other, too := range shadows {
			expectClears(t, f, []api.Step{{Target: id, Related: other}}, in || too)
			expectClears(t, f, []api.Step{{Target: other}, {Target: id}, {Node: other, Related: other}}, in)
			expectClears(t, f, []api.Step{{Target: other, Related: other}, {Target: 10, Related: id}, {Node: other}}, in)
		}
	}
}

func TestClearsOfWhatIsNotThere(t *testing.T) {
	for _, f := range []*arena.Forest{house(t), {}, arena.New(), nil} {
		for _, id := range append([]int{26, 27, 128}, strays...) {
			expectClears(t, f, []api.Step{{Target: id}}, false)
			expectClears(t, f, []api.Step{{Target: 10, Related: id}}, false)
			expectClears(t, f, []api.Step{{Target: id, Related: id}}, false)
			expectClears(t, f, []api.Step{{Node: 19, Related: id}}, false)
			there := f.Len() > 0
			expectClears(t, f, []api.Step{{Target: 19, Related: id}}, there)
			// One of no number is no target, so the entry doesn't count.
			expectClears(t, f, []api.Step{{Target: id, Related: 19}}, there && id != 0)
			expectClears(t, f, []api.Step{{Target: 19}, {Target: id}}, there && id == 0)
		}
	}
}

// A number that is no node's yet is one's, as soon as it is made.
func TestClearsGoesWithTheForest(t *testing.T) {
	f := grow(t, element, element)
	p := []api.Step{{Node: 2, Target: 2, Related: 4}}
	expectClears(t, f, p, false)
	for _, n := range []api.Node{opened, element} {
		if _, e := f.Make(n); e != ok {
			t.Fatal(e)
		}
	}
	expectClears(t, f, p, false)
	put(t, f, 3, 4)
	expectClears(t, f, p, true)
	put(t, f, 3)
	expectClears(t, f, p, false)
	put(t, f, 1, 2)
	expectClears(t, f, p, false)
	put(t, f, 3, 1)
	expectClears(t, f, p, true)
	tie(t, f, 4, 3)
	expectClears(t, f, p, true)
	put(t, f, 3)
	expectClears(t, f, p, false)
}

// The deepest trees, below a Shadow and not.
func TestClearsOfDeepTrees(t *testing.T) {
	for _, top := range []api.Node{document, element, fragment, opened, closed} {
		f := grow(t, append([]api.Node{top}, slices.Repeat([]api.Node{element}, api.MaxNodes-1)...)...)
		for id := 2; id <= api.MaxNodes; id++ {
			put(t, f, id-1, id)
		}
		for id := 1; id <= api.MaxNodes; id++ {
			expectClears(t, f, []api.Step{{Target: id}}, top.Kind == api.Shadow)
		}
	}
}

// Paths of forests

func TestPathsOfAForest(t *testing.T) {
	f := house(t)
	for _, x := range []struct {
		what            string
		target, related int
		composed        bool
		nodes           []int
		turns, without  string
		told            []int
		clears          bool
	}{
		{"out of two shadow trees", 16, 0, true, []int{16, 1, 17, 14, 24, 2, 9},
			"6C 5C 4T 3C 2T 1C 0T 0t 1b 2t 3b 4t 5b 6b", "6C 5C 4T 3C 2T 1C 0T 0t 2t 4t", []int{16, 16, 17, 17, 24, 24, 24}, false},
		{"not composed", 16, 0, false, []int{16, 1},
			"1C 0T 0t 1b", "1C 0T 0t", []int{16, 16}, true},
		{"to a related node beside the host", 16, 10, true, []int{16, 1, 17, 14, 24, 2, 9},
			"6C 5C 4T 3C 2T 1C 0T 0t 1b 2t 3b 4t 5b 6b", "6C 5C 4T 3C 2T 1C 0T 0t 2t 4t", []int{16, 16, 17, 17, 24, 24, 24}, false},
		{"to a related node in the outer shadow tree", 16, 19, true, []int{16, 1, 17, 14},
			"3C 2T 1C 0T 0t 1b 2t 3b", "3C 2T 1C 0T 0t 2t", []int{16, 16, 17, 17}, true},
		{"to a related node in its own tree", 19, 3, true, []int{19, 3, 17, 14},
			"3C 2C 1C 0T 0t 1b 2b 3b", "3C 2C 1C 0T 0t", []int{19, 19, 19, 19}, true},
		{"from outside, to a related node in a shadow tree", 10, 19, true, []int{10, 2, 9},
			"2C 1C 0T 0t 1b 2b", "2C 1C 0T 0t", []int{10, 10, 10}, false},
		{"to a related node in a tree without a host", 10, 5, true, []int{10, 2, 9},
			"2C 1C 0T 0t 1b 2b", "2C 1C 0T 0t", []int{10, 10, 10}, true},
		{"of a host", 24, 0, true, []int{24, 2, 9},
			"2C 1C 0T 0t 1b 2b", "2C 1C 0T 0t", []int{24, 24, 24}, false},
		{"out of a shadow tree, in a tree without a host", 25, 0, true, []int{25, 13, 5, 22, 18, 6},
			"5C 4C 3C 2T 1C 0T 0t 1b 2t 3b 4b 5b", "5C 4C 3C 2T 1C 0T 0t 2t", []int{25, 25, 5, 5, 5, 5}, true},
		{"a root", 11, 0, true, []int{11}, "0T 0t", "0T 0t", []int{11}, false},
		{"a Shadow that is alone", 4, 0, true, []int{4}, "0T 0t", "0T 0t", []int{4}, true},
		{"to itself in the place of the related node", 24, 19, true, nil, "", "", nil, false},
		{"of what isn't there", 26, 0, true, nil, "", "", nil, false},
	} {
		t.Run(x.what, func(t *testing.T) {
			p := path.Make(f, x.target, x.related, x.composed)
			var nodes []int
			for _, s := range p {
				nodes = append(nodes, s.Node)
			}
			if !slices.Equal(nodes, x.nodes) {
				t.Fatalf("the path is %v", nodes)
			}
			expectTurns(t, p, true, x.turns)
			expectTurns(t, p, false, x.without)
			for at, want := range x.told {
				expectTarget(t, p, at, want)
			}
			expectTarget(t, p, -1, 0)
			expectTarget(t, p, len(p), 0)
			expectClears(t, f, p, x.clears)
		})
	}
}

// Long paths

func TestLongPaths(t *testing.T) {
	const size = 1 << 18
	p := make([]api.Step, size)
	expectCount(t, p, true, 2*size)
	expectCount(t, p, false, size)
	expectTarget(t, p, size-1, 0)
	p[0].Target = 5
	expectCount(t, p, true, 2*size)
	expectCount(t, p, false, size+1)
	expectTarget(t, p, size-1, 5)
	expectTarget(t, p, size, 0)
	expectClears(t, house(t), p, true)
	for i := range p {
		p[i].Target = i + 1
	}
	expectCount(t, p, false, 2*size)
	expectTarget(t, p, size/2, size/2+1)
	expectClears(t, house(t), p, false)
}

func expectCount(t *testing.T, p []api.Step, bubbles bool, want int) {
	t.Helper()
	turns, count := Turns(p, bubbles), 0
	for turn := range Each(p, bubbles) {
		if turn != turns[count] {
			t.Fatalf("the turn %d is %+v, not %+v", count, turns[count], turn)
		}
		count++
	}
	if count != want || len(turns) != want {
		t.Fatalf("%d turns, and %d one by one, not %d", len(turns), count, want)
	}
}

// R4

func TestPathAndForestStayAsTheyAre(t *testing.T) {
	f := house(t)
	forest := fmt.Sprintf("%+v", f.All())
	for _, x := range paths {
		p := steps(x.path)
		for i := range p {
			p[i].Related, p[i].ClosedRoot, p[i].ClosedSlot = 16, true, true
		}
		before := slices.Clone(p)
		for _, bubbles := range []bool{false, true} {
			Turns(p, bubbles)
			gather(Each(p, bubbles), 2)
			gather(Each(p, bubbles), -1)
		}
		for at := -1; at <= len(p); at++ {
			Target(p, at)
		}
		Clears(f, p)
		if !slices.Equal(p, before) {
			t.Errorf("asking made %+v of %+v", p, before)
		}
	}
	if fmt.Sprintf("%+v", f.All()) != forest {
		t.Error("asking changed the forest")
	}
}

func TestWhatIsBehindThePathIsNotReadOrWritten(t *testing.T) {
	f := house(t)
	long := []api.Step{{Node: 10, Target: 10}, {Node: 2}, {Node: 9}, {Node: 19, Target: 19, Related: 16}, {Node: 3}}
	before := slices.Clone(long)
	p := long[:3]
	expectTurns(t, p, true, "2C 1C 0T 0t 1b 2b")
	expectTurns(t, p, false, "2C 1C 0T 0t")
	for at, want := range []int{10, 10, 10, 0, 0} {
		expectTarget(t, p, at, want)
	}
	expectClears(t, f, p, false)
	if !slices.Equal(long, before) {
		t.Errorf("what is behind the path became %+v", long[3:])
	}
}

func TestListsShareNoMemory(t *testing.T) {
	for _, x := range paths {
		for _, bubbles := range []bool{false, true} {
			p := steps(x.path)
			want := text(Turns(steps(x.path), bubbles))
			one, other, each := Turns(p, bubbles), Turns(p, bubbles), Each(p, bubbles)
			scribble(one)
			if text(other) != want {
				t.Error("writing over one list changes another one")
			}
			if got := text(gather(each, -1)); got != want {
				t.Errorf("writing over a list changes what is told one by one: %s", got)
			}
			scribble(other)
			expectTurns(t, p, bubbles, want)
			if !slices.Equal(p, steps(x.path)) {
				t.Errorf("writing over a list made %+v of the path", p)
			}
		}
	}
}

// scribble writes over a list and over what lies behind its length.
func scribble(l []api.Turn) {
	l = l[:cap(l)]
	for i := range l {
		l[i] = api.Turn{At: -7, Phase: 7, Capture: true}
	}
}

// R6

func TestTheSameIsToldAgain(t *testing.T) {
	f := house(t)
	p := path.Make(f, 16, 19, true)
	answers := func() string {
		l := []string{text(Turns(p, true)), text(Turns(p, false)), strconv.FormatBool(Clears(f, p))}
		for at := range p {
			l = append(l, strconv.Itoa(Target(p, at)))
		}
		return strings.Join(l, "\n")
	}
	first := answers()
	if answers() != first {
		t.Error("the second time something else is told")
	}
	expectTurns(t, steps(".X"), true, "1T 0C 0b 1t")
	expectClears(t, grow(t, element), p, false)
	if answers() != first {
		t.Error("another path, or another forest, changes what is told")
	}
}

// What a path was when it was asked doesn't matter to what is told of it later.
func TestWhatIsToldGoesWithThePath(t *testing.T) {
	f := house(t)
	p := []api.Step{{Node: 19, Target: 19}, {Node: 3}}
	expectTurns(t, p, false, "1C 0T 0t")
	expectTarget(t, p, 1, 19)
	expectClears(t, f, p, true)
	p[1].Target = 10
	expectTurns(t, p, false, "1T 0T 0t 1t")
	expectTarget(t, p, 1, 10)
	expectClears(t, f, p, false)
	p[0].Target, p[1].Target = 0, 0
	expectTurns(t, p, false, "1C 0C")
	expectTarget(t, p, 1, 0)
	expectClears(t, f, p, false)
}

// grow gives a forest of these nodes.
func grow(t *testing.T, nodes ...api.Node) *arena.Forest {
	t.Helper()
	f := arena.New()
	for i, n := range nodes {
		if id, e := f.Make(n); id != i+1 || e != ok {
			t.Fatal(id, e)
		}
	}
	return f
}

func put(t *testing.T, f *arena.Forest, parent int, kids ...int) {
	t.Helper()
	if e := f.Put(parent, kids...); e != ok {
		t.Fatalf("Put(%d, %v): %v", parent, kids, e)
	}
}

func tie(t *testing.T, f *arena.Forest, host, root int) {
	t.Helper()
	if e := f.Tie(host, root); e != ok {
		t.Fatalf("Tie(%d, %d): %v", host, root, e)
	}
}

// expectTurns looks at the turns, all together and one by one.
func expectTurns(t *testing.T, p []api.Step, bubbles bool, want string) {
	t.Helper()
	if got := text(Turns(p, bubbles)); got != want {
		t.Fatalf("Turns(%+v, %v) = %s\nnot %s", p, bubbles, got, want)
	}
	each := Each(p, bubbles)
	if each == nil {
		t.Fatalf("Each(%+v, %v) is nil", p, bubbles)
	}
	if got := text(gather(each, -1)); got != want {
		t.Fatalf("Each(%+v, %v) = %s\nnot %s", p, bubbles, got, want)
	}
}

func expectTarget(t *testing.T, p []api.Step, at, want int) {
	t.Helper()
	if got := Target(p, at); got != want {
		if len(p) > 100 {
			p = p[:100]
		}
		t.Fatalf("Target(%+v, %d) = %d, not %d", p, at, got, want)
	}
}

func expectClears(t *testing.T, f *arena.Forest, p []api.Step, want bool) {
	t.Helper()
	if got := Clears(f, p); got != want {
		if len(p) > 100 {
			p = p[:100]
		}
		t.Fatalf("Clears(%+v) = %v", p, got)
	}
}
