package ids

import (
	"math"
	"slices"
	"sync"
	"testing"
)

// P2.1

func TestNextUpToTheLimit(t *testing.T) {
	for _, limit := range []int{1, 2, 3, 64, 128, 512, 1000} {
		d := New(limit)
		expectGiven(t, d, 0)
		for want := 1; want <= limit; want++ {
			if n := d.Next(); n != want {
				t.Fatalf("New(%d): Next() = %d, not %d", limit, n, want)
			}
			expectGiven(t, d, want)
		}
		for range 5 {
			if n := d.Next(); n != 0 {
				t.Fatalf("New(%d): Next() = %d behind the limit", limit, n)
			}
			expectGiven(t, d, limit)
		}
	}
}

func TestTheChaptersExample(t *testing.T) {
	d := New(2)
	if l := []int{d.Next(), d.Next(), d.Next(), d.Next()}; !slices.Equal(l, []int{1, 2, 0, 0}) {
		t.Error(l)
	}
}

func TestLimitsThatGiveNothing(t *testing.T) {
	for _, limit := range []int{0, -1, -2, -4, math.MinInt32, math.MinInt + 1, math.MinInt} {
		expectNothing(t, New(limit))
	}
}

func TestNilAndZeroGivers(t *testing.T) {
	expectNothing(t, nil)
	expectNothing(t, &Ids{})
	var zero Ids
	expectNothing(t, &zero)
}

func TestNewIsNeverNil(t *testing.T) {
	for _, limit := range []int{math.MinInt, -1, 0, 1, math.MaxInt} {
		if New(limit) == nil {
			t.Errorf("New(%d) is nil", limit)
		}
	}
}

func TestGreatLimits(t *testing.T) {
	for _, limit := range []int{1 << 20, 1 << 31, 1 << 32, 1 << 53, math.MaxInt - 1, math.MaxInt} {
		d := New(limit)
		for want := range 100 {
			if n := d.Next(); n != want+1 {
				t.Fatalf("New(%d): Next() = %d, not %d", limit, n, want+1)
			}
		}
		expectGiven(t, d, 100)
	}
}

func TestTheGreatestNumbers(t *testing.T) {
	d := New(math.MaxInt)
	// Nobody can ask that often; the edge is reached by setting the counter.
	d.asked.Store(math.MaxInt - 2)
	for _, want := range []int{math.MaxInt - 1, math.MaxInt, 0, 0} {
		if n := d.Next(); n != want {
			t.Errorf("Next() = %d, not %d", n, want)
		}
	}
	if d.Last() != math.MaxInt || !d.Is(math.MaxInt) || !d.Is(1) || d.Is(0) || d.Is(math.MinInt) {
		t.Errorf("Last() = %d", d.Last())
	}
}

func TestNextBehindTheLimitChangesNothing(t *testing.T) {
	d := New(3)
	for range 3 {
		d.Next()
	}
	before := d.asked.Load()
	for range 100000 {
		if n := d.Next(); n != 0 {
			t.Fatalf("Next() = %d", n)
		}
	}
	if d.asked.Load() != before {
		t.Errorf("the counter went from %d to %d", before, d.asked.Load())
	}
	expectGiven(t, d, 3)
}

func TestGiversAreApart(t *testing.T) {
	a, b := New(3), New(2)
	l := []int{a.Next(), b.Next(), a.Next(), b.Next(), a.Next(), b.Next(), a.Next()}
	if !slices.Equal(l, []int{1, 1, 2, 2, 3, 0, 0}) {
		t.Error(l)
	}
	expectGiven(t, a, 3)
	expectGiven(t, b, 2)
	expectGiven(t, New(3), 0)
}

// expectGiven looks whether 1 to last, and no others, were given; asking must change nothing, so it asks twice.
func expectGiven(t *testing.T, d *Ids, last int) {
	t.Helper()
	for range 2 {
		if n := d.Last(); n != last {
			t.Fatalf("Last() = %d, not %d", n, last)
		}
		for n := -2; n <= last+3; n++ {
			if want := 1 <= n && n <= last; d.Is(n) != want {
				t.Fatalf("Is(%d) = %v, when %d was last", n, !want, last)
			}
		}
		for _, n := range []int{math.MinInt, math.MinInt + 1, -last - 3, 1 << 32, 1<<32 + 1, math.MaxInt - 1, math.MaxInt} {
			if d.Is(n) {
				t.Fatalf("Is(%d), when %d was last", n, last)
			}
		}
	}
}

func expectNothing(t *testing.T, d *Ids) {
	t.Helper()
	expectGiven(t, d, 0)
	for range 3 {
		if n := d.Next(); n != 0 {
			t.Fatalf("Next() = %d", n)
		}
		expectGiven(t, d, 0)
	}
}

// P2.2

func TestManyAskWithinTheLimit(t *testing.T) {
	const askers, each = 16, 20000
	d := New(askers * each)
	lists := askAtOnce(d, askers, each)
	expectEachOnce(t, lists, askers*each)
	for _, l := range lists {
		if l[0] == 0 || !slices.IsSorted(l) {
			t.Error("one goroutine's numbers don't ascend")
		}
	}
	if d.Last() != askers*each || d.Next() != 0 {
		t.Errorf("Last() = %d", d.Last())
	}
}

func TestManyAskFarFromTheLimit(t *testing.T) {
	const askers, each = 8, 20000
	d := New(math.MaxInt)
	expectEachOnce(t, askAtOnce(d, askers, each), askers*each)
	if d.Last() != askers*each || d.Next() != askers*each+1 {
		t.Errorf("Last() = %d", d.Last())
	}
}

func TestManyAskBeyondTheLimit(t *testing.T) {
	const askers, each, limit = 16, 20000, 100003
	d := New(limit)
	lists := askAtOnce(d, askers, each)
	expectEachOnce(t, lists, limit)
	for _, l := range lists {
		if i := slices.Index(l, 0); i >= 0 && slices.Max(l[i:]) != 0 {
			t.Error("a number was given behind a 0")
		}
	}
	expectAtTheLimit(t, d, limit)
}

func TestManyAskForFew(t *testing.T) {
	// At a limit this near, the goroutines meet where a number may be given once too often.
	for round := range 5000 {
		limit := round % 5
		d := New(limit)
		expectEachOnce(t, askAtOnce(d, 8, 2), limit)
		expectAtTheLimit(t, d, limit)
	}
}

func TestManyMeetAtTheGreatestNumber(t *testing.T) {
	for range 2000 {
		d := New(math.MaxInt)
		d.asked.Store(math.MaxInt - 2)
		all := slices.Concat(askAtOnce(d, 8, 2)...)
		slices.Sort(all)
		want := append(make([]int, 14), math.MaxInt-1, math.MaxInt)
		if !slices.Equal(all, want) || d.Last() != math.MaxInt {
			t.Fatalf("%v, and Last() = %d", all, d.Last())
		}
	}
}

func TestManyLookWhileOthersAsk(t *testing.T) {
	const askers, each, limit = 4, 20000, 50000
	d := New(limit)
	over := make(chan struct{})
	var asking, looking sync.WaitGroup
	for range askers {
		asking.Go(func() {
			for range each {
				if n := d.Next(); n > 0 && (!d.Is(n) || d.Last() < n) {
					t.Errorf("%d was given, and isn't told", n)
					return
				}
			}
		})
		looking.Go(func() { lookUntil(t, d, limit, over) })
	}
	asking.Wait()
	close(over)
	looking.Wait()
	expectAtTheLimit(t, d, limit)
}

// lookUntil looks, until over is closed, whether Last only grows, stays within the limit, and agrees with Is.
func lookUntil(t *testing.T, d *Ids, limit int, over chan struct{}) {
	last := 0
	for {
		n := d.Last()
		if n < last || n > limit || d.Is(n) != (n > 0) || d.Is(0) || d.Is(limit+1) {
			t.Errorf("Last() = %d behind %d", n, last)
			return
		}
		last = n
		select {
		case <-over:
			return
		default:
		}
	}
}

func TestManyAskANilAndAZeroGiver(t *testing.T) {
	for _, d := range []*Ids{nil, {}, New(0), New(-1)} {
		expectEachOnce(t, askAtOnce(d, 8, 100), 0)
		expectNothing(t, d)
	}
}

func TestACounterThatWasPushedAboveTheLimit(t *testing.T) {
	// Goroutines that meet at the limit leave the counter so, but not in each run.
	d := New(3)
	d.asked.Store(7)
	expectGiven(t, d, 3)
	expectAtTheLimit(t, d, 3)
}

// askAtOnce tells what each of the goroutines was given, by its turns.
func askAtOnce(d *Ids, askers, each int) [][]int {
	lists := make([][]int, askers)
	start := make(chan struct{})
	var group sync.WaitGroup
	for i := range lists {
		group.Go(func() {
			l := make([]int, each)
			<-start
			for k := range l {
				l[k] = d.Next()
			}
			lists[i] = l
		})
	}
	close(start)
	group.Wait()
	return lists
}

// expectEachOnce looks whether 1 to last were each given once, and besides only 0.
func expectEachOnce(t *testing.T, lists [][]int, last int) {
	t.Helper()
	times := make([]int, last+1)
	for _, l := range lists {
		for _, n := range l {
			if n < 0 || n > last {
				t.Fatalf("%d was given, beyond %d", n, last)
			}
			times[n]++
		}
	}
	for n, k := range times {
		if n > 0 && k != 1 {
			t.Fatalf("%d was given %d times", n, k)
		}
	}
}

func expectAtTheLimit(t *testing.T, d *Ids, limit int) {
	t.Helper()
	if n := d.Last(); n != limit || d.Is(limit) != (limit > 0) || d.Is(limit+1) || d.Is(0) {
		t.Fatalf("Last() = %d, not %d", n, limit)
	}
	if n := d.Next(); n != 0 || d.Last() != limit {
		t.Fatalf("Next() = %d behind the limit, then Last() = %d", n, d.Last())
	}
}
