package signal

import (
	"fmt"
	"math/rand/v2"
	"slices"
	"testing"

	"towncrier/api"
)

// A model says P11.1 the other way round: nothing is handed on from a signal to its followers. What is given is asked backwards: a signal is, if it was given by hand, or follows one that is. In which order signals are told, their least ways tell.
type model struct {
	follows tangle
	byHand  map[int]bool
	// In the order in which they were added, those of all signals.
	tags []tag
}

type tag struct{ id, value int }

func newModel() *model { return &model{byHand: map[int]bool{}} }

func (m *model) there(id int) bool { return id > 0 && id <= len(m.follows) }

func (m *model) make(follows []int) (int, api.Errno) {
	for _, id := range follows {
		if !m.there(id) {
			return 0, api.ErrArg
		}
	}
	if len(m.follows) == 64 {
		return 0, api.ErrFull
	}
	m.follows = append(m.follows, slices.Clone(follows))
	return len(m.follows), api.OK
}

// givens tells which signals are given.
func (m *model) givens() []int {
	var given []int
	// One that is followed has a smaller number.
	for id := 1; m.there(id); id++ {
		if m.byHand[id] || slices.ContainsFunc(m.follows[id-1], func(f int) bool { return slices.Contains(given, f) }) {
			given = append(given, id)
		}
	}
	return given
}

func (m *model) given(id int) bool { return slices.Contains(m.givens(), id) }

// opens tells which signals aren't given.
func (m *model) opens() []int {
	var open []int
	given := m.givens()
	for id := 1; m.there(id); id++ {
		if !slices.Contains(given, id) {
			open = append(open, id)
		}
	}
	return open
}

func (m *model) add(id, value int) bool {
	if !m.there(id) || m.given(id) {
		return false
	}
	m.tags = append(m.tags, tag{id, value})
	return true
}

// leastWays tells of each signal the least of the ways to it from one, by their numbers; of one to which none leads nothing.
func (m *model) leastWays(from int) map[int][]int {
	ways := map[int][]int{from: {from}}
	for id := from + 1; m.there(id); id++ {
		for _, f := range m.follows[id-1] {
			if ways[f] == nil {
				continue
			}
			way := append(slices.Clone(ways[f]), id)
			if ways[id] == nil || slices.Compare(way, ways[id]) < 0 {
				ways[id] = way
			}
		}
	}
	return ways
}

// give tells the signals, too, that are given by this, in their order.
func (m *model) give(id int) (told, signals []int, given bool) {
	before := m.givens()
	if !m.there(id) || slices.Contains(before, id) {
		return nil, nil, false
	}
	m.byHand[id] = true
	ways := m.leastWays(id)
	for _, one := range m.givens() {
		if !slices.Contains(before, one) {
			signals = append(signals, one)
		}
	}
	slices.SortFunc(signals, func(a, b int) int { return slices.Compare(ways[a], ways[b]) })
	for _, one := range signals {
		for _, x := range m.tags {
			if x.id == one {
				told = append(told, x.value)
			}
		}
	}
	return told, signals, true
}

// A chance is a source of steps that are the same in each run.
type chance struct {
	*rand.Rand
	// far is how far back followers mostly look for what they follow.
	far int
}

func newChance(seed, round int) chance {
	c := chance{Rand: rand.New(rand.NewPCG(uint64(seed), uint64(round)))}
	c.far = 1 + c.IntN(12)
	return c
}

// id tells the number of one of n signals, mostly.
func (c chance) id(n int) int {
	if n == 0 || c.IntN(25) == 0 {
		others := append([]int{n + 1, n + 2, -n}, strays...)
		return others[c.IntN(len(others))]
	}
	if c.IntN(4) == 0 {
		return 1 + c.IntN(n)
	}
	return max(1, n-c.IntN(c.far))
}

func (c chance) follows(n int) []int {
	var l []int
	for range c.IntN(4) {
		l = append(l, c.id(n))
	}
	return l
}

func TestBoardsAsTheModelHasThem(t *testing.T) {
	counts := map[string]int{}
	for round := range 1500 {
		c := newChance(11, round)
		b, m := New(), newModel()
		// Where less is given, more comes together till it is.
		rare := 1 + c.IntN(60)
		for range 20 + c.IntN(200) {
			switch {
			case c.IntN(3) == 0:
				makeAsModel(t, b, m, c, counts)
			case c.IntN(rare) > 0:
				addAsModel(t, b, m, c, counts)
			default:
				giveAsModel(t, b, m, c, counts)
			}
			expectLen(t, b, len(m.follows))
		}
		expectGivens(t, b, m.givens()...)
	}
	expectCounts(t, counts, 300)
}

func makeAsModel(t *testing.T, b *Board, m *model, c chance, counts map[string]int) {
	t.Helper()
	follows := c.follows(len(m.follows))
	want, wantError := m.make(follows)
	expectMake(t, b, want, wantError, follows...)
	counts[fmt.Sprint("Make: ", int(wantError), ", given ", m.given(want))]++
}

func addAsModel(t *testing.T, b *Board, m *model, c chance, counts map[string]int) {
	t.Helper()
	id, value := c.id(len(m.follows)), c.IntN(9)-1
	want := m.add(id, value)
	if b.Add(id, value) != want {
		t.Fatalf("Add(%d, %d) = %v", id, value, !want)
	}
	counts[fmt.Sprint("Add: ", want, ", there ", m.there(id))]++
}

func giveAsModel(t *testing.T, b *Board, m *model, c chance, counts map[string]int) {
	t.Helper()
	id := c.id(len(m.follows))
	if open := m.opens(); len(open) > 0 && c.IntN(2) == 0 {
		// The first ones have most that follows them.
		id = open[c.IntN(1+c.IntN(len(open)))]
	}
	told, signals, want := m.give(id)
	if !want {
		expectNoGive(t, b, id)
		counts[fmt.Sprint("Give: false, there ", m.there(id))]++
		return
	}
	expectGive(t, b, id, told...)
	expectGivens(t, b, m.givens()...)
	// Out of the order of their numbers: a follower's followers came ahead of the next one.
	counts[fmt.Sprint("Give: ", min(len(signals), 3), " signals, in order ", slices.IsSorted(signals))]++
}

// expectCounts sees to it that each sort of a step came up: else the test would say little of it.
func expectCounts(t *testing.T, counts map[string]int, least int) {
	t.Helper()
	sorts := []string{
		"Make: 0, given false", "Make: 0, given true", "Make: 1, given false", "Make: 9, given false",
		"Add: true, there true", "Add: false, there true", "Add: false, there false",
		"Give: false, there true", "Give: false, there false",
		"Give: 1 signals, in order true", "Give: 2 signals, in order true",
		"Give: 3 signals, in order true", "Give: 3 signals, in order false",
	}
	for _, sort := range sorts {
		if counts[sort] < least {
			t.Errorf("%s: only %d times", sort, counts[sort])
		}
	}
	if len(counts) != len(sorts) {
		t.Errorf("there are %d sorts: %v", len(counts), counts)
	}
}

// P11.2

// A ledger keeps, of tags that are all different, to which signal each was added, and whether it was told.
type ledger struct {
	of   []int
	told []bool
}

func TestEachTagIsToldOnceOrNever(t *testing.T) {
	never, told := 0, 0
	for round := range 1000 {
		c := newChance(112, round)
		b, l := New(), &ledger{}
		for range 30 + c.IntN(200) {
			switch n := c.IntN(20); {
			case n < 6:
				b.Make(c.follows(b.Len())...)
			case n < 19:
				l.add(t, b, c.id(b.Len()))
			default:
				l.give(t, b, c.id(b.Len()))
			}
		}
		l.expectToldOfGiven(t, b)
		for _, was := range l.told {
			if was {
				told++
			} else {
				never++
			}
		}
		// What is left comes now, and nothing of what was told comes again.
		for id := -1; id <= b.Len()+1; id++ {
			l.give(t, b, id)
			l.give(t, b, id)
		}
		if slices.Contains(l.told, false) {
			t.Fatal("all signals are given, and a tag wasn't told")
		}
	}
	if told < 5000 || never < 5000 {
		t.Errorf("%d tags were told, and %d weren't", told, never)
	}
}

func (l *ledger) add(t *testing.T, b *Board, id int) {
	t.Helper()
	open := id >= 1 && id <= b.Len() && !b.Given(id)
	if b.Add(id, len(l.of)) != open {
		t.Fatalf("Add(%d) = %v", id, !open)
	}
	if open {
		l.of, l.told = append(l.of, id), append(l.told, false)
	}
}

// give looks at each tag that is told: it is a new one, of a signal that is given by this call.
func (l *ledger) give(t *testing.T, b *Board, id int) {
	t.Helper()
	was := givenOf(b)
	tags, given := b.Give(id)
	is := givenOf(b)
	if !given && (len(tags) != 0 || !slices.Equal(was, is)) {
		t.Fatalf("Give(%d) is false, and tells %v", id, tags)
	}
	for _, x := range tags {
		if x < 0 || x >= len(l.of) || l.told[x] || was[l.of[x]] || !is[l.of[x]] {
			t.Fatalf("Give(%d) tells %d", id, x)
		}
		l.told[x] = true
	}
	l.expectToldOfGiven(t, b)
}

// expectToldOfGiven looks at all tags: just those of the signals that are given were told.
func (l *ledger) expectToldOfGiven(t *testing.T, b *Board) {
	t.Helper()
	for x, id := range l.of {
		if l.told[x] != b.Given(id) {
			t.Fatalf("tag %d of the signal %d: told %v, given %v", x, id, l.told[x], b.Given(id))
		}
	}
}

func givenOf(b *Board) []bool {
	given := make([]bool, b.Len()+1)
	for id := range given {
		given[id] = b.Given(id)
	}
	return given
}
