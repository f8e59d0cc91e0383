package arena

import (
	"fmt"
	"math"
	"slices"
	"strings"
	"testing"

	"towncrier/api"
)

var (
	document = api.Node{Kind: api.Document}
	element  = api.Node{Kind: api.Element}
	slotted  = api.Node{Kind: api.Element, Slot: true}
	opened   = api.Node{Kind: api.Shadow, Mode: api.Open}
	closed   = api.Node{Kind: api.Shadow, Mode: api.Closed}
	fragment = api.Node{Kind: api.Fragment}
)

// strays are numbers of which no forest has a node.
var strays = []int{0, -1, -2, -128, 129, 1 << 31, 1 << 32, 1<<32 + 1, math.MaxInt, math.MinInt, math.MinInt + 1}

// wrongNames are texts that are neither empty nor a word.
var wrongNames = []string{
	"A", "aB", " ", "a b", " a", "a ", "-", "a-b", "a_b", "abcdefghi", "123456789",
	"é", "aé", "\xff", "a\x00", "\x00", "\n", "\uff41", "\u0663", strings.Repeat("a", 1<<16),
}

// rightNames are the empty text and words, up to the longest.
var rightNames = []string{"", "a", "z", "0", "9", "x1", "abcdefgh", "12345678", "zzzzzzzz"}

// P4.1

func TestNewIsEmpty(t *testing.T) {
	f := New()
	if f == nil {
		t.Fatal("New is nil")
	}
	expectEmpty(t, f)
}

func TestMakeCountsFromOne(t *testing.T) {
	f := New()
	kinds := []api.Node{document, element, opened, fragment, slotted, closed}
	for want := 1; want <= api.MaxNodes; want++ {
		n := kinds[want%len(kinds)]
		if id, e := f.Make(n); id != want || e != api.OK {
			t.Fatalf("Make = %d, %v, not %d", id, e, want)
		}
		if f.Len() != want || len(f.All()) != want {
			t.Fatalf("Len() = %d, not %d", f.Len(), want)
		}
		expectNode(t, f, want, n)
	}
	before := told(f)
	for range 3 {
		for _, n := range kinds {
			expectMake(t, f, n, 0, api.ErrFull)
		}
	}
	if f.Len() != 128 || told(f) != before {
		t.Error("what wasn't taken changed the forest")
	}
}

func TestMakeTakesWhatItShould(t *testing.T) {
	for _, n := range []api.Node{
		document, element, slotted, opened, closed, fragment,
		{Kind: api.Element, Want: "b"},
		{Kind: api.Element, Want: "abcdefgh"},
		{Kind: api.Element, Slot: true, Name: "a"},
		{Kind: api.Element, Slot: true, Name: "12345678"},
		{Kind: api.Element, Slot: true, Name: "a", Want: "b"},
		{Kind: api.Element, Slot: true, Want: "a"},
	} {
		f := grow(t, element)
		expectMake(t, f, n, 2, api.OK)
		expectNode(t, f, 1, element)
		expectNode(t, f, 2, n)
	}
}

func TestMakeTakesNothingElseOver(t *testing.T) {
	for _, n := range []api.Node{document, element, slotted, opened, closed, fragment} {
		f := grow(t, document, element, element, opened)
		want := n
		n.Parent, n.Host, n.Shadow, n.Kids = 1, 2, 4, []int{2, 3}
		expectMake(t, f, n, 5, api.OK)
		for id, other := range []api.Node{document, element, element, opened, want} {
			expectNode(t, f, id+1, other)
		}
		n.Parent, n.Host, n.Shadow, n.Kids = -1, math.MinInt, math.MaxInt, []int{0, 6, 6, -9, 129}
		expectMake(t, f, n, 6, api.OK)
		expectNode(t, f, 6, want)
	}
}

func TestMakeOfWrongKinds(t *testing.T) {
	f := grow(t, element)
	for _, kind := range []int{0, -1, -2, 5, 6, 258, 1<<32 + 2, math.MaxInt, math.MinInt} {
		expectMake(t, f, api.Node{Kind: kind}, 0, api.ErrKind)
		// ErrKind is looked for ahead of all that makes ErrArg.
		expectMake(t, f, api.Node{Kind: kind, Mode: 9}, 0, api.ErrKind)
		expectMake(t, f, api.Node{Kind: kind, Slot: true}, 0, api.ErrKind)
		expectMake(t, f, api.Node{Kind: kind, Name: "A"}, 0, api.ErrKind)
		expectMake(t, f, api.Node{Kind: kind, Want: "A"}, 0, api.ErrKind)
		expectMake(t, f, api.Node{Kind: kind, Mode: -1, Slot: true, Name: "A", Want: "A"}, 0, api.ErrKind)
	}
	if f.Len() != 1 {
		t.Error("something was made")
	}
}

func TestMakeOfWrongModes(t *testing.T) {
	f := New()
	for _, mode := range []int{-1, 3, 4, 1<<32 + 1, math.MaxInt, math.MinInt} {
		for _, kind := range []int{api.Document, api.Element, api.Shadow, api.Fragment} {
			expectMake(t, f, api.Node{Kind: kind, Mode: mode}, 0, api.ErrArg)
		}
	}
	expectMake(t, f, api.Node{Kind: api.Shadow}, 0, api.ErrArg)
	for _, kind := range []int{api.Document, api.Element, api.Fragment} {
		expectMake(t, f, api.Node{Kind: kind, Mode: api.Open}, 0, api.ErrArg)
		expectMake(t, f, api.Node{Kind: kind, Mode: api.Closed}, 0, api.ErrArg)
	}
	expectEmpty(t, f)
}

func TestMakeOfSlotsThatAreNoElements(t *testing.T) {
	f := New()
	for _, n := range []api.Node{document, opened, closed, fragment} {
		n.Slot = true
		expectMake(t, f, n, 0, api.ErrArg)
		n.Name = "a"
		expectMake(t, f, n, 0, api.ErrArg)
		n.Slot = false
		expectMake(t, f, n, 0, api.ErrArg)
		n.Name, n.Want = "", "a"
		expectMake(t, f, n, 0, api.ErrArg)
	}
	expectMake(t, f, api.Node{Kind: api.Element, Name: "a"}, 0, api.ErrArg)
	expectMake(t, f, api.Node{Kind: api.Element, Name: "a", Want: "a"}, 0, api.ErrArg)
	expectEmpty(t, f)
}

func TestMakeOfNames(t *testing.T) {
	f := New()
	for _, s := range wrongNames {
		expectMake(t, f, api.Node{Kind: api.Element, Slot: true, Name: s}, 0, api.ErrArg)
		expectMake(t, f, api.Node{Kind: api.Element, Slot: true, Name: s, Want: "a"}, 0, api.ErrArg)
		expectMake(t, f, api.Node{Kind: api.Element, Slot: true, Name: "a", Want: s}, 0, api.ErrArg)
		expectMake(t, f, api.Node{Kind: api.Element, Want: s}, 0, api.ErrArg)
		expectMake(t, f, api.Node{Kind: api.Element, Name: s}, 0, api.ErrArg)
	}
	expectEmpty(t, f)
	for _, s := range rightNames {
		for _, n := range []api.Node{
			{Kind: api.Element, Slot: true, Name: s},
			{Kind: api.Element, Slot: true, Want: s},
			{Kind: api.Element, Want: s},
		} {
			expectMake(t, f, n, f.Len()+1, api.OK)
			expectNode(t, f, f.Len(), n)
		}
	}
}

func TestMakeInAFullForestTellsTheFirstError(t *testing.T) {
	f := full(t)
	before := told(f)
	expectMake(t, f, api.Node{}, 0, api.ErrKind)
	expectMake(t, f, api.Node{Kind: 5, Mode: 3}, 0, api.ErrKind)
	for _, n := range []api.Node{
		{Kind: api.Shadow}, {Kind: api.Element, Mode: api.Open}, {Kind: api.Fragment, Slot: true},
		{Kind: api.Document, Want: "a"}, {Kind: api.Element, Name: "a"},
		{Kind: api.Element, Slot: true, Name: "A"}, {Kind: api.Element, Want: "A"},
	} {
		expectMake(t, f, n, 0, api.ErrArg)
	}
	expectMake(t, f, element, 0, api.ErrFull)
	expectMake(t, f, closed, 0, api.ErrFull)
	if told(f) != before {
		t.Error("an error changed the forest")
	}
}

func TestMakeOfEveryMixture(t *testing.T) {
	names := []string{"", "a", "A", "abcdefgh", "abcdefghi"}
	for kind := -1; kind <= 6; kind++ {
		for mode := -1; mode <= 3; mode++ {
			for _, slot := range []bool{false, true} {
				for _, name := range names {
					for _, want := range names {
						n := api.Node{Kind: kind, Mode: mode, Slot: slot, Name: name, Want: want}
						id, e := 0, makeError(n)
						if e == api.OK {
							id = 2
						}
						f := grow(t, document)
						expectMake(t, f, n, id, e)
						if e == api.OK {
							expectNode(t, f, 2, n)
						} else if f.Len() != 1 {
							t.Fatalf("%+v was made", n)
						}
					}
				}
			}
		}
	}
}

// makeError says P4.1's rule the other way round: it lists all that may be made.
func makeError(n api.Node) api.Errno {
	words := []string{"", "a", "abcdefgh"}
	switch n.Kind {
	case 1, 4:
		if n.Mode == 0 && !n.Slot && n.Name+n.Want == "" {
			return api.OK
		}
	case 2:
		named := n.Name == "" || n.Slot && slices.Contains(words, n.Name)
		if n.Mode == 0 && named && slices.Contains(words, n.Want) {
			return api.OK
		}
	case 3:
		if (n.Mode == 1 || n.Mode == 2) && !n.Slot && n.Name+n.Want == "" {
			return api.OK
		}
	default:
		return api.ErrKind
	}
	return api.ErrArg
}

// P4.2: Put

func TestTheChaptersExample(t *testing.T) {
	f := grow(t, element, element)
	expectPut(t, f, api.OK, 1, 2)
	if n, ok := f.Node(2); !ok || n.Parent != 1 {
		t.Error(n)
	}
	expectKids(t, f, 1, 2)
	expectKids(t, f, 2)
}

func TestPutInAnyKindOfParent(t *testing.T) {
	for _, n := range []api.Node{document, element, slotted, opened, closed, fragment} {
		f := grow(t, n, element, fragment, slotted)
		expectPut(t, f, api.OK, 1, 4, 2, 3)
		expectKids(t, f, 1, 4, 2, 3)
		for _, id := range []int{2, 3, 4} {
			expectParent(t, f, id, 1)
		}
	}
}

func TestPutNothing(t *testing.T) {
	f := grow(t, element, element, element, element)
	expectPut(t, f, api.OK, 1)
	expectKids(t, f, 1)
	expectPut(t, f, api.OK, 1, 2, 3)
	expectPut(t, f, api.OK, 3, 4)
	expectPut(t, f, api.OK, 1)
	expectKids(t, f, 1)
	expectParent(t, f, 2, 0)
	expectParent(t, f, 3, 0)
	// What is below a child that goes stays below it.
	expectKids(t, f, 3, 4)
	expectParent(t, f, 4, 3)
	expectPut(t, f, api.OK, 3, []int{}...)
	expectParent(t, f, 4, 0)
}

func TestPutTheSameInAnotherOrder(t *testing.T) {
	f := grow(t, element, element, element, element)
	for _, kids := range [][]int{{2, 3, 4}, {4, 3, 2}, {3, 4, 2}, {3, 4, 2}, {2, 3, 4}} {
		expectPut(t, f, api.OK, 1, kids...)
		expectKids(t, f, 1, kids...)
		for id := 2; id <= 4; id++ {
			expectParent(t, f, id, 1)
		}
	}
}

func TestPutWhereSomeGoAndSomeStay(t *testing.T) {
	f := grow(t, element, element, element, element, element, element)
	expectPut(t, f, api.OK, 1, 2, 3, 4)
	expectPut(t, f, api.OK, 4, 6)
	expectPut(t, f, api.OK, 1, 5, 4, 2)
	expectKids(t, f, 1, 5, 4, 2)
	for id, parent := range []int{2: 1, 3: 0, 4: 1, 5: 1, 6: 4} {
		if id >= 2 {
			expectParent(t, f, id, parent)
		}
	}
	// One that went may be put elsewhere, and one that stays may not.
	expectPut(t, f, api.OK, 2, 3)
	expectPut(t, f, api.ErrHierarchy, 3, 5)
	expectPut(t, f, api.OK, 1, 4)
	expectPut(t, f, api.OK, 3, 5)
	expectKids(t, f, 2, 3)
	expectKids(t, f, 3, 5)
}

func TestPutOfWhatIsNotThere(t *testing.T) {
	f := grow(t, element, element, element)
	expectPut(t, f, api.OK, 1, 2)
	for _, id := range append(strays, 4, 128) {
		expectPut(t, f, api.ErrArg, id)
		expectPut(t, f, api.ErrArg, id, 2)
		expectPut(t, f, api.ErrArg, id, id)
		expectPut(t, f, api.ErrArg, 1, id)
		expectPut(t, f, api.ErrArg, 1, id, 2)
		expectPut(t, f, api.ErrArg, 1, 2, 3, id)
	}
	expectKids(t, f, 1, 2)
	expectPut(t, New(), api.ErrArg, 1)
	expectPut(t, New(), api.ErrArg, 0, 0)
}

func TestPutOfTwoThatAreOne(t *testing.T) {
	f := grow(t, element, element, element, element)
	expectPut(t, f, api.OK, 1, 2)
	for _, kids := range [][]int{{3, 3}, {2, 2}, {3, 2, 3}, {2, 3, 4, 2}, {4, 3, 3}, {1, 1}} {
		expectPut(t, f, api.ErrArg, 1, kids...)
	}
	expectKids(t, f, 1, 2)
	expectParent(t, f, 3, 0)
}

func TestPutTheParentItself(t *testing.T) {
	for _, n := range []api.Node{element, fragment} {
		f := grow(t, n, element)
		expectPut(t, f, api.ErrHierarchy, 1, 1)
		expectPut(t, f, api.ErrHierarchy, 1, 2, 1)
		expectKids(t, f, 1)
		expectParent(t, f, 1, 0)
		expectParent(t, f, 2, 0)
	}
}

func TestPutWhatIsAboveByParents(t *testing.T) {
	f := grow(t, element, element, fragment, element, element)
	for id := 1; id < 5; id++ {
		expectPut(t, f, api.OK, id, id+1)
	}
	for low := 2; low <= 5; low++ {
		for high := 1; high < low; high++ {
			expectPut(t, f, api.ErrHierarchy, low, high)
		}
	}
	// Only the way up counts: what is below, or beside, may come below.
	expectPut(t, f, api.OK, 2)
	expectPut(t, f, api.OK, 5, 1)
	expectPut(t, f, api.ErrHierarchy, 2, 3)
}

func TestPutWhatIsAboveByHosts(t *testing.T) {
	// 1 > 2, the host of 3; 3 > 4, the host of 5; 5 > 6.
	f := grow(t, element, element, opened, element, closed, element, element)
	expectPut(t, f, api.OK, 1, 2)
	expectTie(t, f, api.OK, 2, 3)
	expectPut(t, f, api.OK, 3, 4)
	expectTie(t, f, api.OK, 4, 5)
	expectPut(t, f, api.OK, 5, 6)
	// 1 has no parent, so only that it is above tells against it.
	for parent := 2; parent <= 6; parent++ {
		expectPut(t, f, api.ErrHierarchy, parent, 1)
		expectPut(t, f, api.ErrHierarchy, parent, 7, 1)
	}
	// A host alone, without a parent, above its shadow tree.
	expectPut(t, f, api.OK, 1)
	for parent := 3; parent <= 6; parent++ {
		expectPut(t, f, api.ErrHierarchy, parent, 2)
	}
	expectPut(t, f, api.OK, 6, 1)
	expectParent(t, f, 1, 6)
	expectPut(t, f, api.OK, 7, 2)
	expectPut(t, f, api.ErrHierarchy, 1, 7)
	expectForest(t, f)
}

func TestPutWhatHasAnotherParent(t *testing.T) {
	f := grow(t, element, element, element, fragment, opened)
	for _, other := range []int{2, 4, 5} {
		expectPut(t, f, api.OK, other, 3)
		expectPut(t, f, api.ErrHierarchy, 1, 3)
		expectParent(t, f, 3, other)
		expectKids(t, f, other, 3)
		expectKids(t, f, 1)
		expectPut(t, f, api.OK, other)
	}
	expectPut(t, f, api.OK, 1, 3)
}

func TestPutOfDocumentsAndShadows(t *testing.T) {
	for _, n := range []api.Node{document, opened, closed} {
		for _, parent := range []api.Node{document, element, slotted, opened, closed, fragment} {
			f := grow(t, parent, n, element)
			expectPut(t, f, api.ErrHierarchy, 1, 2)
			expectPut(t, f, api.ErrHierarchy, 1, 3, 2)
			expectPut(t, f, api.ErrHierarchy, 2, 2)
			expectParent(t, f, 2, 0)
			expectKids(t, f, 1)
		}
	}
	f := grow(t, element, opened, element)
	expectTie(t, f, api.OK, 1, 2)
	expectPut(t, f, api.ErrHierarchy, 1, 2)
	expectPut(t, f, api.ErrHierarchy, 3, 2)
}

func TestPutTellsErrArgFirst(t *testing.T) {
	f := grow(t, element, element, document, opened, element, element)
	expectPut(t, f, api.OK, 1, 2)
	expectPut(t, f, api.OK, 5, 6)
	// Whatever is wrong with a kid, and wherever it stands, one that isn't there or comes twice goes first.
	for _, kid := range []int{1, 2, 3, 4, 6} {
		for _, kids := range [][]int{{kid, 9}, {9, kid}, {kid, kid}, {kid, 0}, {kid, 5, 5}, {5, kid, 5}} {
			expectPut(t, f, api.ErrArg, 2, kids...)
		}
		expectPut(t, f, api.ErrArg, 9, kid)
	}
	expectKids(t, f, 1, 2)
	expectKids(t, f, 5, 6)
}

func TestPutNeverKeepsAPieceOfWhatItRefuses(t *testing.T) {
	f := grow(t, element, element, element, element, document, element)
	expectPut(t, f, api.OK, 1, 2, 3)
	expectPut(t, f, api.OK, 4, 6)
	for _, bad := range []int{1, 5, 6, 7, 2} {
		for _, kids := range [][]int{{2, bad}, {3, bad, 2}, {bad, 2}} {
			before := told(f)
			if e := f.Put(1, kids...); e == api.OK {
				t.Errorf("Put(1, %v) was done", kids)
			}
			if told(f) != before {
				t.Errorf("Put(1, %v) told an error and changed the forest", kids)
			}
		}
	}
}

func TestPutAllThatThereAre(t *testing.T) {
	f := full(t)
	var kids []int
	for id := api.MaxNodes; id >= 2; id-- {
		kids = append(kids, id)
	}
	expectPut(t, f, api.OK, 1, kids...)
	expectKids(t, f, 1, kids...)
	expectPut(t, f, api.ErrArg, 1, append(kids, 2)...)
	expectPut(t, f, api.ErrHierarchy, 1, append(kids, 1)...)
	expectPut(t, f, api.ErrArg, 1, append(kids, 1, 129)...)
	expectPut(t, f, api.ErrHierarchy, 128, kids[1:]...)
	expectForest(t, f)
}

func TestPutOfLongLists(t *testing.T) {
	f := full(t)
	expectPut(t, f, api.ErrArg, 1, make([]int, 1<<19)...)
	ones := slices.Repeat([]int{2}, 1<<19)
	expectPut(t, f, api.ErrArg, 1, ones...)
	expectKids(t, f, 1)
}

func TestALongChain(t *testing.T) {
	f := full(t)
	for id := 1; id < api.MaxNodes; id++ {
		expectPut(t, f, api.OK, id, id+1)
	}
	for id := 2; id <= api.MaxNodes; id++ {
		expectPut(t, f, api.ErrHierarchy, id, 1)
	}
	expectForest(t, f)
}

// P4.2: Tie

func TestTie(t *testing.T) {
	for _, host := range []api.Node{element, slotted} {
		for _, root := range []api.Node{opened, closed} {
			f := grow(t, host, root, element, closed)
			expectTie(t, f, api.OK, 1, 2)
			want, other := host, root
			want.Shadow, other.Host = 2, 1
			expectNode(t, f, 1, want)
			expectNode(t, f, 2, other)
			expectNode(t, f, 3, element)
			expectNode(t, f, 4, closed)
			expectTie(t, f, api.OK, 3, 4)
		}
	}
}

func TestTieOfWhatIsNotThere(t *testing.T) {
	f := grow(t, element, opened, document)
	for _, id := range append(strays, 4, 128) {
		expectTie(t, f, api.ErrArg, id, 2)
		expectTie(t, f, api.ErrArg, 1, id)
		expectTie(t, f, api.ErrArg, id, id)
		// Ahead of ErrKind.
		expectTie(t, f, api.ErrArg, id, 3)
		expectTie(t, f, api.ErrArg, 3, id)
	}
	expectTie(t, f, api.OK, 1, 2)
	// Ahead of ErrInvalidState.
	expectTie(t, f, api.ErrArg, 1, 4)
	expectTie(t, f, api.ErrArg, 4, 2)
	expectTie(t, New(), api.ErrArg, 1, 1)
}

func TestTieOfWrongKinds(t *testing.T) {
	kinds := []api.Node{document, element, slotted, opened, closed, fragment}
	for _, host := range kinds {
		for _, root := range kinds {
			f := grow(t, host, root)
			want := api.ErrKind
			if host.Kind == api.Element && root.Kind == api.Shadow {
				want = api.OK
			}
			expectTie(t, f, want, 1, 2)
		}
		f := grow(t, host)
		expectTie(t, f, api.ErrKind, 1, 1)
	}
}

func TestTieTellsErrKindAheadOfErrInvalidState(t *testing.T) {
	f := grow(t, element, opened, document, element, opened)
	expectTie(t, f, api.OK, 1, 2)
	expectTie(t, f, api.ErrKind, 1, 4)
	expectTie(t, f, api.ErrKind, 1, 1)
	expectTie(t, f, api.ErrKind, 3, 2)
	expectTie(t, f, api.ErrKind, 2, 2)
	expectTie(t, f, api.ErrKind, 2, 1)
	expectTie(t, f, api.ErrKind, 5, 2)
}

func TestTieWhereThereIsOneAlready(t *testing.T) {
	f := grow(t, element, opened, element, closed)
	expectTie(t, f, api.OK, 1, 2)
	expectTie(t, f, api.ErrInvalidState, 1, 2)
	expectTie(t, f, api.ErrInvalidState, 1, 4)
	expectTie(t, f, api.ErrInvalidState, 3, 2)
	expectTie(t, f, api.OK, 3, 4)
	expectTie(t, f, api.ErrInvalidState, 1, 4)
	expectTie(t, f, api.ErrInvalidState, 3, 2)
}

func TestTieWhereTheRootIsAbove(t *testing.T) {
	// 1 > 2 > 3, the host of 4; 4 > 5, the host of 6; 6 > 7.
	f := grow(t, opened, element, element, closed, element, opened, element)
	expectPut(t, f, api.OK, 1, 2)
	expectPut(t, f, api.OK, 2, 3)
	expectTie(t, f, api.ErrHierarchy, 2, 1)
	expectTie(t, f, api.ErrHierarchy, 3, 1)
	expectTie(t, f, api.OK, 3, 4)
	expectPut(t, f, api.OK, 4, 5)
	expectTie(t, f, api.ErrHierarchy, 5, 1)
	expectTie(t, f, api.OK, 5, 6)
	expectPut(t, f, api.OK, 6, 7)
	expectTie(t, f, api.ErrHierarchy, 7, 1)
	expectForest(t, f)
	// Once the way up is cut, the root may be tied there.
	expectPut(t, f, api.OK, 2)
	expectTie(t, f, api.OK, 7, 1)
	expectPut(t, f, api.ErrHierarchy, 2, 3)
	expectForest(t, f)
}

func TestTieTellsErrInvalidStateAheadOfErrHierarchy(t *testing.T) {
	f := grow(t, opened, element, opened, element)
	expectPut(t, f, api.OK, 1, 2)
	expectTie(t, f, api.OK, 2, 3)
	expectTie(t, f, api.ErrInvalidState, 2, 1)
	expectTie(t, f, api.OK, 4, 1)
	expectPut(t, f, api.OK, 3)
	expectTie(t, f, api.ErrInvalidState, 2, 1)
	g := grow(t, opened, element, element)
	expectPut(t, g, api.OK, 1, 2)
	expectTie(t, g, api.OK, 3, 1)
	expectTie(t, g, api.ErrInvalidState, 2, 1)
}

func TestPutKeepsWhatIsTied(t *testing.T) {
	f := grow(t, element, element, opened, element)
	expectTie(t, f, api.OK, 2, 3)
	expectPut(t, f, api.OK, 3, 4)
	expectPut(t, f, api.OK, 1, 2)
	expectPut(t, f, api.OK, 1)
	expectNode(t, f, 2, api.Node{Kind: api.Element, Shadow: 3})
	expectNode(t, f, 3, api.Node{Kind: api.Shadow, Mode: api.Open, Host: 2, Kids: []int{4}})
	expectNode(t, f, 4, api.Node{Kind: api.Element, Parent: 3})
}

// P4.3

func TestNameAndWant(t *testing.T) {
	f := grow(t, api.Node{Kind: api.Element, Slot: true, Name: "old", Want: "own"}, slotted, element)
	for _, s := range rightNames {
		expectErr(t, f.Name(1, s), api.OK)
		expectNode(t, f, 1, api.Node{Kind: api.Element, Slot: true, Name: s, Want: "own"})
	}
	for _, s := range append(rightNames, "", "last") {
		expectErr(t, f.Want(1, s), api.OK)
		expectNode(t, f, 1, api.Node{Kind: api.Element, Slot: true, Name: rightNames[len(rightNames)-1], Want: s})
		expectErr(t, f.Want(3, s), api.OK)
		expectNode(t, f, 3, api.Node{Kind: api.Element, Want: s})
	}
	expectNode(t, f, 2, slotted)
	expectErr(t, f.Name(1, ""), api.OK)
	expectErr(t, f.Want(1, ""), api.OK)
	expectNode(t, f, 1, slotted)
}

func TestNameAndWantOfWrongNames(t *testing.T) {
	f := grow(t, api.Node{Kind: api.Element, Slot: true, Name: "a", Want: "b"}, document)
	before := told(f)
	for _, s := range wrongNames {
		for id := 1; id <= 2; id++ {
			// Ahead of ErrKind, which 2 would have.
			expectErr(t, f.Name(id, s), api.ErrArg)
			expectErr(t, f.Want(id, s), api.ErrArg)
		}
	}
	if told(f) != before {
		t.Error("an error changed the forest")
	}
}

func TestNameAndWantOfWhatIsNotThere(t *testing.T) {
	f := grow(t, slotted, slotted)
	before := told(f)
	for _, id := range append(strays, 3, 128) {
		for _, s := range []string{"", "a", "A"} {
			expectErr(t, f.Name(id, s), api.ErrArg)
			expectErr(t, f.Want(id, s), api.ErrArg)
		}
	}
	if told(f) != before {
		t.Error("an error changed the forest")
	}
}

func TestNameAndWantOfWrongKinds(t *testing.T) {
	f := grow(t, document, opened, closed, fragment, element)
	before := told(f)
	for id := 1; id <= 5; id++ {
		for _, s := range rightNames {
			expectErr(t, f.Name(id, s), api.ErrKind)
			if id < 5 {
				expectErr(t, f.Want(id, s), api.ErrKind)
			}
		}
	}
	if told(f) != before {
		t.Error("an error changed the forest")
	}
}

func TestNameAndWantLeaveTheTreeAlone(t *testing.T) {
	f := grow(t, element, slotted, element, opened)
	expectPut(t, f, api.OK, 1, 2)
	expectPut(t, f, api.OK, 2, 3)
	expectTie(t, f, api.OK, 2, 4)
	expectErr(t, f.Name(2, "a"), api.OK)
	expectErr(t, f.Want(2, "b"), api.OK)
	expectNode(t, f, 1, api.Node{Kind: api.Element, Kids: []int{2}})
	expectNode(t, f, 2, api.Node{Kind: api.Element, Parent: 1, Shadow: 4, Slot: true, Name: "a", Want: "b", Kids: []int{3}})
	expectNode(t, f, 3, api.Node{Kind: api.Element, Parent: 2})
	expectNode(t, f, 4, api.Node{Kind: api.Shadow, Mode: api.Open, Host: 2})
}

func TestNodeOfWhatIsNotThere(t *testing.T) {
	for _, f := range []*Forest{grow(t, element, element), New(), {}, nil} {
		for _, id := range append(strays, 3, 128) {
			if n, ok := f.Node(id); ok || fmt.Sprint(n) != fmt.Sprint(api.Node{}) {
				t.Errorf("Node(%d) = %+v, %v", id, n, ok)
			}
		}
	}
	f := full(t)
	if _, ok := f.Node(128); !ok {
		t.Error("the last node isn't there")
	}
	if _, ok := f.Node(129); ok {
		t.Error("there is one behind the last node")
	}
}

func TestAllIsInTheOrderOfNumbers(t *testing.T) {
	f := New()
	for id := 1; id <= api.MaxNodes; id++ {
		expectMake(t, f, api.Node{Kind: api.Element, Want: fmt.Sprint(id)}, id, api.OK)
	}
	expectPut(t, f, api.OK, 100, 7, 128, 1)
	all := f.All()
	if len(all) != 128 || f.Len() != 128 {
		t.Fatal(len(all), f.Len())
	}
	for i, n := range all {
		if n.Want != fmt.Sprint(i+1) {
			t.Errorf("at the place %d: %+v", i, n)
		}
		expectNode(t, f, i+1, n)
	}
	if !slices.Equal(all[99].Kids, []int{7, 128, 1}) || all[127].Parent != 100 {
		t.Error(all[99], all[127])
	}
}

func TestANilForest(t *testing.T) {
	var f *Forest
	for range 2 {
		expectEmpty(t, f)
		for _, n := range []api.Node{element, {}, {Kind: 9, Mode: 9}, {Kind: api.Shadow}} {
			expectMake(t, f, n, 0, api.ErrArg)
		}
		for _, id := range append(strays, 1, 2) {
			expectErr(t, f.Put(id), api.ErrArg)
			expectErr(t, f.Put(id, 1, 1), api.ErrArg)
			expectErr(t, f.Tie(id, 1), api.ErrArg)
			expectErr(t, f.Tie(1, id), api.ErrArg)
			for _, s := range []string{"", "a", "A"} {
				expectErr(t, f.Name(id, s), api.ErrArg)
				expectErr(t, f.Want(id, s), api.ErrArg)
			}
			if n, ok := f.Node(id); ok || fmt.Sprint(n) != fmt.Sprint(api.Node{}) {
				t.Errorf("Node(%d) = %+v, %v", id, n, ok)
			}
		}
	}
}

func TestAZeroForest(t *testing.T) {
	var f Forest
	expectEmpty(t, &f)
	expectPut(t, &f, api.ErrArg, 1)
	expectTie(t, &f, api.ErrArg, 1, 2)
	expectErr(t, f.Name(1, "a"), api.ErrArg)
	expectErr(t, f.Want(1, "a"), api.ErrArg)
	expectMake(t, &f, slotted, 1, api.OK)
	expectMake(t, &f, element, 2, api.OK)
	expectMake(t, &f, closed, 3, api.OK)
	expectPut(t, &f, api.OK, 1, 2)
	expectTie(t, &f, api.OK, 2, 3)
	expectErr(t, f.Name(1, "a"), api.OK)
	expectNode(t, &f, 1, api.Node{Kind: api.Element, Slot: true, Name: "a", Kids: []int{2}})
	for f.Len() < api.MaxNodes {
		expectMake(t, &f, element, f.Len()+1, api.OK)
	}
	expectMake(t, &f, element, 0, api.ErrFull)
}

func TestForestsAreApart(t *testing.T) {
	a, b := New(), New()
	expectMake(t, a, element, 1, api.OK)
	expectMake(t, a, element, 2, api.OK)
	expectMake(t, b, document, 1, api.OK)
	expectPut(t, a, api.OK, 1, 2)
	expectPut(t, b, api.ErrArg, 1, 2)
	expectNode(t, b, 1, document)
	expectEmpty(t, New())
}

// R4

func TestWhatIsToldMayBeWrittenOver(t *testing.T) {
	f := grow(t, element, slotted, element, opened)
	expectPut(t, f, api.OK, 1, 2, 3)
	expectTie(t, f, api.OK, 1, 4)
	before := told(f)

	n, _ := f.Node(1)
	twin, _ := f.Node(1)
	n.Kids[0], n.Kids[1] = 99, -1
	_ = append(n.Kids[:0], 7, 7, 7)
	if !slices.Equal(twin.Kids, []int{2, 3}) {
		t.Error("two answers of Node share a list")
	}

	all, other := f.All(), f.All()
	for i := range all {
		for j := range all[i].Kids {
			all[i].Kids[j] = 77
		}
		_ = append(all[i].Kids, 77, 77)
		all[i] = api.Node{Kind: 9, Name: "zzz"}
	}
	if fmt.Sprintf("%+v", other) != before {
		t.Error("two answers of All share memory")
	}
	_ = append(f.All()[:1], api.Node{}, api.Node{})
	if told(f) != before {
		t.Error("the forest changed by what was done to its answers")
	}
	expectForest(t, f)
}

func TestNoTwoListsOfAllShareMemory(t *testing.T) {
	f := grow(t, element, element, element, element, element, element)
	expectPut(t, f, api.OK, 1, 2, 3)
	expectPut(t, f, api.OK, 4, 5, 6)
	all := f.All()
	_ = append(all[0].Kids, 91, 92, 93)
	if !slices.Equal(all[3].Kids, []int{5, 6}) {
		t.Error(all[3])
	}
	_ = append(all[3].Kids[:0], 94, 95)
	if !slices.Equal(all[0].Kids, []int{2, 3}) {
		t.Error(all[0])
	}
}

func TestWhatIsToldStaysWhenTheForestGoesOn(t *testing.T) {
	f := grow(t, element, slotted, element, element)
	expectPut(t, f, api.OK, 1, 2, 3)
	n, _ := f.Node(1)
	all := f.All()
	before := fmt.Sprint(n, all)
	expectPut(t, f, api.OK, 1, 3, 2)
	expectPut(t, f, api.OK, 1, 4)
	expectErr(t, f.Name(2, "a"), api.OK)
	expectErr(t, f.Want(3, "b"), api.OK)
	expectMake(t, f, element, 5, api.OK)
	if fmt.Sprint(n, all) != before {
		t.Error("an answer changed afterwards")
	}
}

func TestWhatIsHandedInIsNeitherKeptNorChanged(t *testing.T) {
	f := grow(t, element, element, element, element)
	room := []int{2, 3, 4, 55}
	expectPut(t, f, api.OK, 1, room[:2]...)
	if !slices.Equal(room, []int{2, 3, 4, 55}) {
		t.Error("Put changed what it was given:", room)
	}
	room[0], room[1] = 4, -5
	expectKids(t, f, 1, 2, 3)
	expectParent(t, f, 4, 0)

	again := []int{3, 2, 66}
	expectPut(t, f, api.OK, 1, again[:2]...)
	expectPut(t, f, api.OK, 1, 3)
	expectPut(t, f, api.OK, 1, 3, 4, 2)
	if !slices.Equal(again, []int{3, 2, 66}) {
		t.Error("Put wrote into a list of an earlier call:", again)
	}

	// The list of an answer may be handed in again.
	n, _ := f.Node(1)
	expectPut(t, f, api.OK, 1, n.Kids[1:]...)
	expectKids(t, f, 1, 4, 2)
	clear(n.Kids)
	expectKids(t, f, 1, 4, 2)

	kids := []int{2, 3}
	expectMake(t, f, api.Node{Kind: api.Element, Kids: kids}, 5, api.OK)
	if !slices.Equal(kids, []int{2, 3}) {
		t.Error("Make changed what it was given:", kids)
	}
	expectPut(t, f, api.OK, 1)
	expectPut(t, f, api.OK, 5, 4)
	if !slices.Equal(kids, []int{2, 3}) {
		t.Error("Make kept what it was given:", kids)
	}
}

// grow gives a forest of these nodes.
func grow(t *testing.T, nodes ...api.Node) *Forest {
	t.Helper()
	f := New()
	for i, n := range nodes {
		expectMake(t, f, n, i+1, api.OK)
	}
	return f
}

// full gives a forest of as many elements as there may be.
func full(t *testing.T) *Forest {
	t.Helper()
	return grow(t, slices.Repeat([]api.Node{element}, api.MaxNodes)...)
}

// told gives a text of all that a forest tells.
func told(f *Forest) string { return fmt.Sprintf("%+v", f.All()) }

func expectErr(t *testing.T, e, want api.Errno) {
	t.Helper()
	if e != want {
		t.Fatalf("%v, not %v", e, want)
	}
}

func expectMake(t *testing.T, f *Forest, n api.Node, id int, e api.Errno) {
	t.Helper()
	if gotId, gotE := f.Make(n); gotId != id || gotE != e {
		t.Fatalf("Make(%.99s) = %d, %v, not %d, %v", fmt.Sprintf("%+v", n), gotId, gotE, id, e)
	}
}

// expectPut looks at the error, and, if there is one, that nothing changed.
func expectPut(t *testing.T, f *Forest, e api.Errno, parent int, kids ...int) {
	t.Helper()
	before := told(f)
	if got := f.Put(parent, kids...); got != e {
		t.Fatalf("Put(%d, %.40s) = %v, not %v", parent, fmt.Sprint(kids), got, e)
	}
	if e != api.OK && told(f) != before {
		t.Fatalf("Put(%d, %.40s) told %v and changed the forest", parent, fmt.Sprint(kids), e)
	}
}

// expectTie looks at the error, and, if there is one, that nothing changed.
func expectTie(t *testing.T, f *Forest, e api.Errno, host, root int) {
	t.Helper()
	before := told(f)
	if got := f.Tie(host, root); got != e {
		t.Fatalf("Tie(%d, %d) = %v, not %v", host, root, got, e)
	}
	if e != api.OK && told(f) != before {
		t.Fatalf("Tie(%d, %d) told %v and changed the forest", host, root, e)
	}
}

func expectNode(t *testing.T, f *Forest, id int, want api.Node) {
	t.Helper()
	n, ok := f.Node(id)
	if !ok || fmt.Sprintf("%+v", n) != fmt.Sprintf("%+v", want) {
		t.Fatalf("Node(%d) = %+v, %v, not %+v", id, n, ok, want)
	}
	if a := f.All()[id-1]; fmt.Sprintf("%+v", a) != fmt.Sprintf("%+v", want) {
		t.Fatalf("All tells of %d %+v, not %+v", id, a, want)
	}
}

func expectKids(t *testing.T, f *Forest, id int, kids ...int) {
	t.Helper()
	if n, ok := f.Node(id); !ok || !slices.Equal(n.Kids, kids) {
		t.Fatalf("node %d has the children %v, not %v", id, n.Kids, kids)
	}
}

func expectParent(t *testing.T, f *Forest, id, parent int) {
	t.Helper()
	if n, ok := f.Node(id); !ok || n.Parent != parent {
		t.Fatalf("node %d has the parent %d, not %d", id, n.Parent, parent)
	}
}

func expectEmpty(t *testing.T, f *Forest) {
	t.Helper()
	if _, ok := f.Node(1); ok || f.Len() != 0 || len(f.All()) != 0 {
		t.Fatalf("Len() = %d, All() = %v", f.Len(), f.All())
	}
}
