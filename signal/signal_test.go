package signal

import (
	"math"
	"slices"
	"testing"

	"towncrier/api"
)

const ok = api.OK

// strays are numbers of which no board has a signal.
var strays = []int{0, -1, -2, -63, -64, -65, 65, 66, 128, 256, 257, 1 << 31, 1 << 32, 1<<32 + 1, math.MaxInt, math.MinInt, math.MinInt + 1}

// A tangle is boards' signals, each with what it follows: signal 1 is at the place 0.
type tangle [][]int

// parish is what most tests look at:
//
//	1
//	2
//	3 follows 1
//	4 follows 1
//	5 follows 4
//	6 follows 3 and 2
//	7 follows 4, 3 and 6
//	8 follows 2, twice
//	9
//
// Signal n has the tags 10n and 10n + 1.
var parish = tangle{{}, {}, {1}, {1}, {4}, {3, 2}, {4, 3, 6}, {2, 2}, {}}

// build gives a board of these signals, each with its two tags.
func (s tangle) build(t *testing.T) *Board {
	t.Helper()
	b := New()
	for i, follows := range s {
		makeOne(t, b, i+1, follows...)
	}
	// Backwards, so that the order of all tags isn't that of the signals.
	for id := len(s); id > 0; id-- {
		add(t, b, id, 10*id)
		add(t, b, id, 10*id+1)
	}
	return b
}

// tagsOf gives the tags that build gave to these signals.
func tagsOf(ids ...int) []int {
	var l []int
	for _, id := range ids {
		l = append(l, 10*id, 10*id+1)
	}
	return l
}

func TestTheChaptersExample(t *testing.T) {
	b := New()
	makeOne(t, b, 1)
	add(t, b, 1, 7)
	expectGive(t, b, 1, 7)
}

// P11.1: New

func TestNew(t *testing.T) {
	a, b := New(), New()
	if a == nil || b == nil || a == b {
		t.Fatalf("New() = %p, then %p", a, b)
	}
	expectEmpty(t, a)
	expectEmpty(t, b)
}

func TestBoardsAreApart(t *testing.T) {
	a, b := New(), New()
	makeOne(t, a, 1)
	expectEmpty(t, b)
	makeOne(t, b, 1)
	makeOne(t, b, 2, 1)
	add(t, a, 1, 5)
	expectMake(t, a, 0, api.ErrArg, 2)
	expectGive(t, b, 1)
	expectGivens(t, a)
	expectGivens(t, b, 1, 2)
	expectGive(t, a, 1, 5)
}

// P11.1: Make

func TestMakeTellsNumbersInTurn(t *testing.T) {
	b := New()
	lists := tangle{{}, {1}, {1, 2}, {2, 1}, {3, 3}, {1, 1, 1, 1}, {4, 2, 4}, nil, {1, 2, 3, 4, 5, 6, 7, 8}}
	for i, follows := range lists {
		expectLen(t, b, i)
		makeOne(t, b, i+1, follows...)
		expectLen(t, b, i+1)
		expectGivens(t, b)
	}
}

func TestMakeOfWhatIsNotThere(t *testing.T) {
	for _, given := range []bool{false, true} {
		b := parish.build(t)
		var told []int
		if given {
			told = []int{1, 3, 4, 5, 6, 7}
			expectGive(t, b, 1, tagsOf(1, 3, 6, 7, 4, 5)...)
		}
		for _, stray := range append([]int{10, 11, 64}, strays...) {
			lists := tangle{{stray}, {1, stray}, {stray, 1}, {9, 8, stray, 7}, {1, 2, 3, 4, 5, 6, 7, 8, 9, stray}, {stray, stray}, {stray, 1 - stray}}
			for _, follows := range lists {
				expectMake(t, b, 0, api.ErrArg, follows...)
				expectLen(t, b, 9)
				expectGivens(t, b, told...)
			}
		}
		makeOne(t, b, 10)
		expectGivens(t, b, told...)
	}
}

// What Make refuses follows nothing, also if something that is there was named ahead of what isn't.
func TestMakeThatFailsLeavesAllAsItWas(t *testing.T) {
	b := New()
	makeOne(t, b, 1)
	makeOne(t, b, 2)
	add(t, b, 1, 10)
	expectMake(t, b, 0, api.ErrArg, 1, 3)
	expectMake(t, b, 0, api.ErrArg, 3, 1)
	expectMake(t, b, 0, api.ErrArg, 1, 2, 0)
	expectMake(t, b, 0, api.ErrArg, 1, 1, -1)
	expectLen(t, b, 2)
	makeOne(t, b, 3)
	add(t, b, 3, 30)
	makeOne(t, b, 4, 2)
	add(t, b, 4, 40)
	expectGive(t, b, 1, 10)
	expectGivens(t, b, 1)
	expectGive(t, b, 2, 40)
	expectGive(t, b, 3, 30)
}

func TestMakeOnAnEmptyBoard(t *testing.T) {
	b := New()
	for _, id := range append([]int{1, 2}, strays...) {
		expectMake(t, b, 0, api.ErrArg, id)
		expectEmpty(t, b)
	}
	makeOne(t, b, 1)
}

func TestMakeOfOneThatIsGiven(t *testing.T) {
	for _, x := range []struct {
		what    string
		follows []int
		given   bool
	}{
		{"none", nil, false},
		{"one that isn't given", []int{9}, false},
		{"several that aren't given", []int{9, 1, 3, 9}, false},
		{"one that is given", []int{2}, true},
		{"one that is given, twice", []int{2, 2}, true},
		{"one that was given with another one", []int{6}, true},
		{"only given ones", []int{6, 2, 8}, true},
		{"the first is given", []int{2, 1, 9}, true},
		{"the one between is given", []int{1, 8, 9}, true},
		{"the last is given", []int{1, 9, 7}, true},
	} {
		t.Run(x.what, func(t *testing.T) {
			b := parish.build(t)
			expectGive(t, b, 2, tagsOf(2, 6, 7, 8)...)
			givens := []int{2, 6, 7, 8}
			makeOne(t, b, 10, x.follows...)
			makeOne(t, b, 11, 10)
			if x.given {
				givens = append(givens, 10, 11)
			}
			expectGivens(t, b, givens...)
			if b.Add(10, 100) == x.given || b.Add(11, 110) == x.given {
				t.Error("Add fits not what is given")
			}
			if x.given {
				expectNoGive(t, b, 10)
				expectNoGive(t, b, 11)
			} else {
				expectGive(t, b, 10, 100, 110)
			}
		})
	}
}

// A signal that is given from the beginning on is nobody's giver: what it follows besides stays as it is, with its tags.
func TestMakeOfOneThatIsGivenGivesNothingElse(t *testing.T) {
	b := parish.build(t)
	expectGive(t, b, 9, tagsOf(9)...)
	makeOne(t, b, 10, 1, 9, 2)
	expectGivens(t, b, 9, 10)
	expectGive(t, b, 1, tagsOf(1, 3, 6, 7, 4, 5)...)
	expectGive(t, b, 2, tagsOf(2, 8)...)
}

func TestTheLastSignalAndTheOneBehindIt(t *testing.T) {
	for _, given := range []bool{false, true} {
		b := New()
		for id := 1; id <= api.MaxSignals-1; id++ {
			makeOne(t, b, id)
		}
		add(t, b, 1, 10)
		makeOne(t, b, 64, 63, 1)
		expectLen(t, b, 64)
		var givens []int
		if given {
			expectGive(t, b, 63)
			givens = []int{63, 64}
		} else {
			add(t, b, 64, 640)
		}
		full := tangle{nil, {1}, {64}, {63, 64}, {1, 1}}
		for range 3 {
			for _, follows := range full {
				expectMake(t, b, 0, api.ErrFull, follows...)
			}
			for _, stray := range strays {
				expectMake(t, b, 0, api.ErrArg, stray)
				expectMake(t, b, 0, api.ErrArg, 1, stray)
				expectMake(t, b, 0, api.ErrArg, stray, 64)
			}
			expectLen(t, b, 64)
			expectGivens(t, b, givens...)
		}
		if given {
			expectGive(t, b, 1, 10)
		} else {
			expectGive(t, b, 1, 10, 640)
		}
	}
}

// P11.1: Add

func TestAdd(t *testing.T) {
	for _, tags := range [][]int{
		{7},
		{0},
		{-1},
		{1, 2, 3, 4, 5},
		{5, 4, 3, 2, 1},
		{3, 1, 2, 1, 3},
		{7, 7},
		{7, 8, 7},
		{0, 0, 0},
		{math.MinInt, math.MaxInt, -1, 0, 1, 1 << 32},
		slices.Repeat([]int{2, 1, 1}, 1000),
	} {
		b := New()
		makeOne(t, b, 1)
		makeOne(t, b, 2)
		for _, tag := range tags {
			add(t, b, 2, tag)
		}
		expectGivens(t, b)
		expectLen(t, b, 2)
		expectGive(t, b, 1)
		expectGive(t, b, 2, tags...)
	}
}

// Signals may have the same tags, and each keeps its own.
func TestAddToSeveralInTurn(t *testing.T) {
	b := tangle{{}, {}, {1}}.build(t)
	for tag := range 50 {
		for id := 1; id <= 3; id++ {
			add(t, b, id, tag)
		}
	}
	var tail []int
	for tag := range 50 {
		tail = append(tail, tag)
	}
	expectGive(t, b, 2, slices.Concat(tagsOf(2), tail)...)
	expectGive(t, b, 1, slices.Concat(tagsOf(1), tail, tagsOf(3), tail)...)
}

func TestAddToOneThatIsGiven(t *testing.T) {
	b := parish.build(t)
	expectGive(t, b, 2, tagsOf(2, 6, 7, 8)...)
	for _, id := range []int{2, 6, 7, 8} {
		expectNoAdd(t, b, id, 1)
		expectNoAdd(t, b, id, 10*id)
		expectNoGive(t, b, id)
	}
	expectGivens(t, b, 2, 6, 7, 8)
	expectGive(t, b, 1, tagsOf(1, 3, 4, 5)...)
}

func TestAddToWhatIsNotThere(t *testing.T) {
	b := parish.build(t)
	for _, id := range append([]int{10, 11, 64}, strays...) {
		expectNoAdd(t, b, id, 1)
		expectNoAdd(t, b, id, id)
	}
	expectLen(t, b, 9)
	expectGivens(t, b)
	// What was to be added to a signal that wasn't there isn't kept for it.
	makeOne(t, b, 10)
	expectGive(t, b, 10)
	expectGive(t, b, 1, tagsOf(1, 3, 6, 7, 4, 5)...)
	expectGive(t, b, 2, tagsOf(2, 8)...)
	expectGive(t, b, 9, tagsOf(9)...)
}

// P11.1: Give and Given

func TestGive(t *testing.T) {
	for _, x := range []struct {
		what        string
		follows     tangle
		ahead       []int
		id          int
		told, given []int
	}{
		{"one alone", tangle{{}}, nil, 1, []int{1}, []int{1}},
		{"one of several", tangle{{}, {}, {}}, nil, 2, []int{2}, []int{2}},
		{"one that follows", tangle{{}, {1}}, nil, 2, []int{2}, []int{2}},
		{"one that is followed", tangle{{}, {1}}, nil, 1, []int{1, 2}, []int{1, 2}},
		{"one between", tangle{{}, {1}, {2}}, nil, 2, []int{2, 3}, []int{2, 3}},
		{"a follower of a follower", tangle{{}, {1}, {2}}, nil, 1, []int{1, 2, 3}, []int{1, 2, 3}},
		{"several followers", tangle{{}, {1}, {1}, {1}}, nil, 1, []int{1, 2, 3, 4}, []int{1, 2, 3, 4}},
		{"a follower's followers ahead of the next", tangle{{}, {1}, {1}, {2}}, nil, 1, []int{1, 2, 4, 3}, []int{1, 2, 3, 4}},
		{"each follower's followers behind it", tangle{{}, {1}, {1}, {3}, {2}, {5}, {4}}, nil, 1, []int{1, 2, 5, 6, 3, 4, 7}, []int{1, 2, 3, 4, 5, 6, 7}},
		{"the last follower's followers", tangle{{}, {1}, {1}, {3}}, nil, 1, []int{1, 2, 3, 4}, []int{1, 2, 3, 4}},
		{"one that follows several, by the first", tangle{{}, {}, {}, {1, 2, 3}}, nil, 1, []int{1, 4}, []int{1, 4}},
		{"one that follows several, by the one between", tangle{{}, {}, {}, {1, 2, 3}}, nil, 2, []int{2, 4}, []int{2, 4}},
		{"one that follows several, by the last", tangle{{}, {}, {}, {1, 2, 3}}, nil, 3, []int{3, 4}, []int{3, 4}},
		{"one that follows several, backwards", tangle{{}, {}, {}, {3, 2, 1}}, nil, 1, []int{1, 4}, []int{1, 4}},
		{"one that follows the same twice", tangle{{}, {1, 1}}, nil, 1, []int{1, 2}, []int{1, 2}},
		{"two ways of the same length", tangle{{}, {1}, {1}, {2, 3}}, nil, 1, []int{1, 2, 4, 3}, []int{1, 2, 3, 4}},
		{"two ways, the first one longer", tangle{{}, {1}, {1, 2}}, nil, 1, []int{1, 2, 3}, []int{1, 2, 3}},
		{"two ways, the first one shorter", tangle{{}, {1}, {1}, {1, 3}, {4}}, nil, 1, []int{1, 2, 3, 4, 5}, []int{1, 2, 3, 4, 5}},
		{"two ways, of which the first goes round the next follower", tangle{{}, {1}, {2}, {3, 1}, {1}}, nil, 1, []int{1, 2, 3, 4, 5}, []int{1, 2, 3, 4, 5}},
		{"three ways", tangle{{}, {1}, {1}, {1}, {4, 3, 2}, {5}}, nil, 1, []int{1, 2, 5, 6, 3, 4}, []int{1, 2, 3, 4, 5, 6}},
		{"not what it follows", tangle{{}, {1}, {1}, {2, 3}}, nil, 3, []int{3, 4}, []int{3, 4}},
		{"a follower that was given ahead", tangle{{}, {1}, {1}}, []int{2}, 1, []int{1, 3}, []int{1, 2, 3}},
		{"all followers were given ahead", tangle{{}, {1}, {1}}, []int{3, 2}, 1, []int{1}, []int{1, 2, 3}},
		{"a follower's follower was given ahead", tangle{{}, {1}, {2}, {2}}, []int{3}, 1, []int{1, 2, 4}, []int{1, 2, 3, 4}},
		{"a follower was given ahead, with its own", tangle{{}, {1}, {2}, {1}}, []int{2}, 1, []int{1, 4}, []int{1, 2, 3, 4}},
		{"one of two ways was given ahead", tangle{{}, {1}, {1}, {2, 3}}, []int{2}, 1, []int{1, 3}, []int{1, 2, 3, 4}},
		{"a follower was given by another one", tangle{{}, {}, {1, 2}, {1}}, []int{2}, 1, []int{1, 4}, []int{1, 2, 3, 4}},
	} {
		t.Run(x.what, func(t *testing.T) {
			b := x.follows.build(t)
			for _, id := range x.ahead {
				if _, given := b.Give(id); !given {
					t.Fatalf("Give(%d) is false", id)
				}
			}
			expectGive(t, b, x.id, tagsOf(x.told...)...)
			expectGivens(t, b, x.given...)
			expectLen(t, b, len(x.follows))
			for _, id := range x.given {
				expectNoGive(t, b, id)
				expectNoAdd(t, b, id, 1)
			}
		})
	}
}

func TestGiveWithoutTags(t *testing.T) {
	b := New()
	makeOne(t, b, 1)
	makeOne(t, b, 2, 1)
	makeOne(t, b, 3, 2)
	makeOne(t, b, 4)
	add(t, b, 3, 30)
	expectGive(t, b, 4)
	// Those between have nothing to tell, and are given all the same.
	expectGive(t, b, 1, 30)
	expectGivens(t, b, 1, 2, 3, 4)
}

func TestGiveAgain(t *testing.T) {
	b := parish.build(t)
	expectGive(t, b, 2, tagsOf(2, 6, 7, 8)...)
	for range 3 {
		for _, id := range []int{2, 6, 7, 8} {
			expectNoGive(t, b, id)
		}
		expectGivens(t, b, 2, 6, 7, 8)
	}
	expectGive(t, b, 1, tagsOf(1, 3, 4, 5)...)
	expectNoGive(t, b, 1)
	expectGive(t, b, 9, tagsOf(9)...)
	expectGivens(t, b, 1, 2, 3, 4, 5, 6, 7, 8, 9)
}

func TestGiveOfWhatIsNotThere(t *testing.T) {
	b := parish.build(t)
	for _, id := range append([]int{10, 11, 64}, strays...) {
		expectNoGive(t, b, id)
		expectGivens(t, b)
		expectLen(t, b, 9)
	}
	// A signal that is made then isn't given by that.
	makeOne(t, b, 10)
	add(t, b, 10, 5)
	expectGive(t, b, 10, 5)
}

func TestGivenOfWhatIsNotThere(t *testing.T) {
	b := parish.build(t)
	for range 2 {
		for _, id := range append([]int{10, 11, 64}, strays...) {
			if b.Given(id) {
				t.Errorf("Given(%d), and it isn't there", id)
			}
		}
		for id := 1; id <= 9; id++ {
			b.Give(id)
		}
	}
}

func TestAskingChangesNothing(t *testing.T) {
	b := parish.build(t)
	for range 3 {
		expectGivens(t, b)
		expectLen(t, b, 9)
	}
	expectGive(t, b, 1, tagsOf(1, 3, 6, 7, 4, 5)...)
	for range 3 {
		expectGivens(t, b, 1, 3, 4, 5, 6, 7)
		expectLen(t, b, 9)
	}
	expectGive(t, b, 2, tagsOf(2, 8)...)
}

// The greatest boards

func TestALongChain(t *testing.T) {
	for from := 1; from <= api.MaxSignals; from += 9 {
		chain := make(tangle, api.MaxSignals)
		var ids []int
		for i := range chain {
			if i > 0 {
				chain[i] = []int{i}
			}
			if i+1 >= from {
				ids = append(ids, i+1)
			}
		}
		b := chain.build(t)
		expectGive(t, b, from, tagsOf(ids...)...)
		expectGivens(t, b, ids...)
	}
}

func TestAsManyFollowersAsCanBe(t *testing.T) {
	// Each follows all ahead of it: there are more ways than could be gone one by one.
	all := make(tangle, api.MaxSignals)
	var ids []int
	for i := range all {
		all[i] = slices.Clone(ids)
		ids = append(ids, i+1)
	}
	b := all.build(t)
	expectGive(t, b, 40, tagsOf(ids[39:]...)...)
	expectGive(t, b, 1, tagsOf(ids[:39]...)...)
	expectGivens(t, b, ids...)
}

func TestAStar(t *testing.T) {
	star := make(tangle, api.MaxSignals)
	ids := []int{1}
	for i := 1; i < len(star); i++ {
		star[i] = []int{1}
		ids = append(ids, i+1)
	}
	b := star.build(t)
	expectGive(t, b, 1, tagsOf(ids...)...)
	expectGivens(t, b, ids...)
}

func TestLongLists(t *testing.T) {
	const many = 1 << 18
	b := New()
	makeOne(t, b, 1)
	makeOne(t, b, 2, slices.Repeat([]int{1}, many)...)
	expectMake(t, b, 0, api.ErrArg, append(slices.Repeat([]int{1, 2}, many/2), 3)...)
	var tags []int
	for tag := range many {
		add(t, b, 2, -tag)
		tags = append(tags, -tag)
	}
	expectGive(t, b, 1, tags...)
}

// R4: Memory

func TestWhatIsHandedInIsNeitherChangedNorKept(t *testing.T) {
	b := New()
	for id := 1; id <= 3; id++ {
		makeOne(t, b, id)
	}
	memory := []int{2, 1, 2, 3, 3, 99, 1}
	makeOne(t, b, 4, memory[:3]...)
	expectMake(t, b, 0, api.ErrArg, memory[3:6]...)
	makeOne(t, b, 5, memory[:0]...)
	if !slices.Equal(memory, []int{2, 1, 2, 3, 3, 99, 1}) {
		t.Fatal("Make wrote over what it was handed: ", memory)
	}
	for i := range memory {
		memory[i] = 3
	}
	add(t, b, 4, 40)
	add(t, b, 5, 50)
	expectGive(t, b, 3)
	expectGivens(t, b, 3)
	expectGive(t, b, 1, 40)
	expectGivens(t, b, 1, 3, 4)
	expectGive(t, b, 5, 50)
}

func TestWhatIsAnsweredMayBeWrittenOver(t *testing.T) {
	b := parish.build(t)
	first, _ := b.Give(2)
	kept := slices.Clone(first)
	scribble(first)
	second, given := b.Give(1)
	if want := tagsOf(1, 3, 4, 5); !given || !slices.Equal(second, want) {
		t.Fatalf("Give(1) = %v, %v, not %v", second, given, want)
	}
	copied := slices.Clone(second)
	scribble(first)
	if !slices.Equal(second, copied) {
		t.Error("two answers share memory")
	}
	scribble(second)
	makeOne(t, b, 10, 9)
	add(t, b, 10, 100)
	add(t, b, 9, 92)
	expectGive(t, b, 9, 90, 91, 92, 100)
	expectGivens(t, b, 1, 2, 3, 4, 5, 6, 7, 8, 9, 10)
	if !slices.Equal(kept, tagsOf(2, 6, 7, 8)) {
		t.Errorf("Give(2) = %v", kept)
	}
}

// Also where one signal's tags are all that is told, they aren't handed out with the memory in which they stood.
func TestAnswersOfOneSignalEach(t *testing.T) {
	for many := range 20 {
		b := New()
		makeOne(t, b, 1)
		makeOne(t, b, 2)
		var tags []int
		for tag := range many {
			add(t, b, 1, tag)
			add(t, b, 2, tag)
			tags = append(tags, tag)
		}
		told, _ := b.Give(1)
		scribble(told)
		expectNoGive(t, b, 1)
		expectGive(t, b, 2, tags...)
	}
}

// scribble writes over a list, and over the memory behind it.
func scribble(l []int) {
	l = l[:cap(l)]
	for i := range l {
		l[i] = 1000 + i
	}
}

// Nil and zero boards

func TestNilBoard(t *testing.T) {
	var b *Board
	for range 3 {
		for _, id := range append([]int{1, 2, 64}, strays...) {
			expectMake(t, b, 0, api.ErrArg, id)
			expectMake(t, b, 0, api.ErrArg, id, 1)
			expectNoAdd(t, b, id, 1)
			expectNoGive(t, b, id)
		}
		expectMake(t, b, 0, api.ErrArg)
		expectMake(t, b, 0, api.ErrArg, []int{}...)
		expectEmpty(t, b)
	}
}

func TestZeroBoard(t *testing.T) {
	var zero Board
	var held struct {
		other int
		board Board
	}
	for _, b := range []*Board{&zero, {}, &held.board, new(Board)} {
		expectEmpty(t, b)
		for _, id := range append([]int{1, 2}, strays...) {
			expectMake(t, b, 0, api.ErrArg, id)
			expectNoAdd(t, b, id, 1)
			expectNoGive(t, b, id)
		}
		expectEmpty(t, b)
		makeOne(t, b, 1)
		makeOne(t, b, 2, 1)
		add(t, b, 1, 10)
		add(t, b, 2, 20)
		expectGive(t, b, 1, 10, 20)
		for id := 3; id <= 64; id++ {
			makeOne(t, b, id)
		}
		expectMake(t, b, 0, api.ErrFull)
	}
}

func makeOne(t *testing.T, b *Board, want int, follows ...int) {
	t.Helper()
	expectMake(t, b, want, ok, follows...)
}

func expectMake(t *testing.T, b *Board, want int, wantError api.Errno, follows ...int) {
	t.Helper()
	if id, e := b.Make(follows...); id != want || e != wantError {
		t.Fatalf("Make(%v) = %d, %v, not %d, %v", short(follows), id, e, want, wantError)
	}
}

func add(t *testing.T, b *Board, id, tag int) {
	t.Helper()
	if !b.Add(id, tag) {
		t.Fatalf("Add(%d, %d) is false", id, tag)
	}
}

func expectNoAdd(t *testing.T, b *Board, id, tag int) {
	t.Helper()
	if b.Add(id, tag) {
		t.Fatalf("Add(%d, %d) is true", id, tag)
	}
}

func expectGive(t *testing.T, b *Board, id int, want ...int) {
	t.Helper()
	told, given := b.Give(id)
	if !given || !slices.Equal(told, want) {
		t.Fatalf("Give(%d) = %v, %v, not %v", id, short(told), given, short(want))
	}
	if !b.Given(id) {
		t.Fatalf("Given(%d) is false behind Give", id)
	}
}

func expectNoGive(t *testing.T, b *Board, id int) {
	t.Helper()
	if told, given := b.Give(id); given || len(told) != 0 {
		t.Fatalf("Give(%d) = %v, %v", id, short(told), given)
	}
}

// expectGivens looks at all signals: these are given, the others aren't.
func expectGivens(t *testing.T, b *Board, given ...int) {
	t.Helper()
	for id := -1; id <= api.MaxSignals+1; id++ {
		if want := slices.Contains(given, id); b.Given(id) != want {
			t.Fatalf("Given(%d) = %v", id, !want)
		}
	}
}

func expectLen(t *testing.T, b *Board, want int) {
	t.Helper()
	if n := b.Len(); n != want {
		t.Fatalf("Len() = %d, not %d", n, want)
	}
}

func expectEmpty(t *testing.T, b *Board) {
	t.Helper()
	expectLen(t, b, 0)
	expectGivens(t, b)
}

// short keeps a message readable.
func short(l []int) []int { return l[:min(len(l), 40)] }
