package latch

import (
	"runtime"
	"slices"
	"sync"
	"sync/atomic"
	"testing"
	"time"
	"weak"
)

// P3.1

func TestTheChaptersExample(t *testing.T) {
	l := New()
	if a := []bool{l.Do(func() {}), l.Do(func() {})}; !slices.Equal(a, []bool{true, false}) {
		t.Error(a)
	}
}

func TestDoCallsOnce(t *testing.T) {
	for name, l := range openLatches() {
		calls := 0
		if !l.Do(func() { calls++ }) || calls != 1 {
			t.Errorf("%s: the first Do called f %d times", name, calls)
		}
		expectShut(t, name, l)
		if calls != 1 {
			t.Errorf("%s: f was called again", name)
		}
	}
}

func TestDoOfNothing(t *testing.T) {
	for name, l := range openLatches() {
		if !l.Do(nil) {
			t.Errorf("%s: the first Do of nil is false", name)
		}
		expectShut(t, name, l)
	}
}

func TestDoneShutsNothing(t *testing.T) {
	for name, l := range openLatches() {
		for range 5 {
			if l.Done() {
				t.Fatalf("%s: Done ahead of Do", name)
			}
		}
		calls := 0
		if !l.Do(func() { calls++ }) || calls != 1 {
			t.Errorf("%s: Do behind Done called f %d times", name, calls)
		}
		expectShut(t, name, l)
	}
}

func TestDoWaitsForWhatItCalls(t *testing.T) {
	for name, l := range openLatches() {
		var over atomic.Bool
		l.Do(func() {
			for range 1000 {
				runtime.Gosched()
			}
			over.Store(true)
		})
		if !over.Load() {
			t.Errorf("%s: Do answered ahead of the end of f", name)
		}
	}
}

func TestWithinWhatIsCalled(t *testing.T) {
	for name, l := range openLatches() {
		within, calls := 0, 0
		expectEnd(t, func() {
			l.Do(func() {
				within++
				if !l.Done() {
					t.Errorf("%s: not Done within", name)
				}
				if l.Do(func() { calls++ }) || l.Do(nil) || l.Do(func() { l.Do(func() { calls++ }) }) {
					t.Errorf("%s: Do within is true", name)
				}
				if !l.Done() {
					t.Errorf("%s: not Done within, behind another Do", name)
				}
			})
		})
		if within != 1 || calls != 0 {
			t.Errorf("%s: called %d times, and %d times within", name, within, calls)
		}
		expectShut(t, name, l)
	}
}

func TestAFunctionThatDoesItself(t *testing.T) {
	for name, l := range openLatches() {
		calls := 0
		var again func()
		again = func() {
			calls++
			if calls < 5 && l.Do(again) {
				t.Errorf("%s: true within", name)
			}
		}
		expectEnd(t, func() { l.Do(again) })
		if calls != 1 {
			t.Errorf("%s: called %d times", name, calls)
		}
	}
}

func TestOneFunctionForSeveralLatches(t *testing.T) {
	calls := 0
	f := func() { calls++ }
	a, b := New(), New()
	if !a.Do(f) || !b.Do(f) || a.Do(f) || b.Do(f) || calls != 2 {
		t.Errorf("called %d times", calls)
	}
}

func TestLatchesAreApart(t *testing.T) {
	var l [4]Latch
	made := []*Latch{New(), &l[0], &l[1], New(), &l[2], &l[3]}
	for i, one := range made {
		if !one.Do(nil) {
			t.Errorf("latch %d was shut", i)
		}
		for k, other := range made {
			if other.Done() != (k <= i) {
				t.Errorf("latch %d, when %d was shut: Done() = %v", k, i, other.Done())
			}
		}
	}
}

func TestLatchesWithinOneAnother(t *testing.T) {
	chain := make([]Latch, 100)
	calls := 0
	var from func(i int)
	from = func(i int) {
		calls++
		if i == len(chain) {
			return
		}
		if !chain[i].Do(func() { from(i + 1) }) {
			t.Errorf("latch %d was shut", i)
		}
		if chain[0].Do(func() { calls++ }) {
			t.Error("the first latch was open, behind the others")
		}
	}
	expectEnd(t, func() { from(0) })
	if calls != len(chain)+1 {
		t.Errorf("called %d times", calls)
	}
}

func TestNewIsNeverNil(t *testing.T) {
	a, b := New(), New()
	if a == nil || b == nil || a == b {
		t.Errorf("New() = %p, then %p", a, b)
	}
}

func TestNilLatch(t *testing.T) {
	var l *Latch
	calls := 0
	for range 3 {
		if l.Done() || l.Do(nil) || l.Do(func() { calls++ }) || l.Done() {
			t.Error("a nil latch answers true")
		}
	}
	if calls != 0 {
		t.Errorf("a nil latch called f %d times", calls)
	}
}

func TestNothingIsKept(t *testing.T) {
	for name, l := range openLatches() {
		first, again := doWithMemory(l), doWithMemory(l)
		for range 100 {
			runtime.GC()
			if first.Value() == nil && again.Value() == nil {
				break
			}
		}
		if first.Value() != nil || again.Value() != nil {
			t.Errorf("%s: what was handed to Do is kept", name)
		}
		runtime.KeepAlive(l)
	}
}

// doWithMemory hands to Do a function that has memory, and tells what doesn't keep that alive.
func doWithMemory(l *Latch) weak.Pointer[[256]int] {
	memory := new([256]int)
	l.Do(func() { memory[0]++ })
	return weak.Make(memory)
}

// openLatches tells latches that must behave alike.
func openLatches() map[string]*Latch {
	var zero Latch
	var held struct {
		other int
		latch Latch
	}
	return map[string]*Latch{"by New": New(), "zero": &zero, "of a literal": {}, "in a struct": &held.latch}
}

func expectShut(t *testing.T, name string, l *Latch) {
	t.Helper()
	calls := 0
	for range 3 {
		if !l.Done() || l.Do(func() { calls++ }) || l.Do(nil) || !l.Done() || calls != 0 {
			t.Fatalf("%s: isn't shut", name)
		}
	}
}

// expectEnd fails, where a latch waits for itself, and the test would hang.
func expectEnd(t *testing.T, f func()) {
	t.Helper()
	over := make(chan struct{})
	go func() {
		defer close(over)
		f()
	}()
	select {
	case <-over:
	case <-time.After(30 * time.Second):
		t.Fatal("doesn't end")
	}
}

// P3.2

func TestManyDoAtOnce(t *testing.T) {
	for range 5000 {
		const many = 8
		l := New()
		var calls [many]atomic.Int64
		answers := doAtOnce(l, many, func(i int) func() { return func() { calls[i].Add(1) } })
		for i, yes := range answers {
			if n := calls[i].Load(); n != one(yes) {
				t.Fatalf("goroutine %d: Do is %v, and called f %d times", i, yes, n)
			}
		}
		expectOneTrue(t, answers)
		expectShut(t, "behind many", l)
	}
}

func TestManyDoNothingAtOnce(t *testing.T) {
	for round := range 5000 {
		var l Latch
		var calls atomic.Int64
		// In each second round some hand in a function, too.
		answers := doAtOnce(&l, 8, func(i int) func() {
			if round%2 == 0 || i%2 == 0 {
				return nil
			}
			return func() { calls.Add(1) }
		})
		expectOneTrue(t, answers)
		who := slices.Index(answers, true)
		if n := calls.Load(); n != one(round%2 == 1 && who%2 == 1) {
			t.Fatalf("goroutine %d was first, and %d functions were called", who, n)
		}
		expectShut(t, "behind many", &l)
	}
}

func TestManyDoWithin(t *testing.T) {
	for range 2000 {
		l := New()
		var within atomic.Int64
		expectEnd(t, func() {
			answers := doAtOnce(l, 8, func(int) func() {
				return func() {
					if !l.Done() || l.Do(func() { within.Add(1) }) {
						t.Error("open within")
					}
					within.Add(1)
				}
			})
			expectOneTrue(t, answers)
		})
		if n := within.Load(); n != 1 {
			t.Fatalf("%d functions were called", n)
		}
	}
}

func TestManyDoInStep(t *testing.T) {
	const rounds, many = 5000, 4
	latches := make([]Latch, rounds)
	trues, calls := make([]atomic.Int64, rounds), make([]atomic.Int64, rounds)
	inStep(rounds, many, func(round int) {
		if latches[round].Do(func() { calls[round].Add(1) }) {
			trues[round].Add(1)
		}
		if !latches[round].Done() {
			t.Error("not Done behind Do")
		}
	})
	for round := range rounds {
		if n, k := trues[round].Load(), calls[round].Load(); n != 1 || k != 1 {
			t.Fatalf("%d calls of Do are true, and %d functions were called", n, k)
		}
	}
}

func TestWhatIsCalledMayWaitForTheOthers(t *testing.T) {
	const rounds, many = 5000, 4
	latches, refused := make([]Latch, rounds), newMeetings(rounds, many-1)
	expectEnd(t, func() {
		inStep(rounds, many, func(round int) {
			if !latches[round].Do(refused[round].wait) {
				refused[round].come()
			}
		})
	})
}

// inStep calls f in several goroutines, that begin each round as near to one another as can be: so they meet where a look and a deed come apart.
func inStep(rounds, many int, f func(round int)) {
	starts := newMeetings(rounds, many)
	var group sync.WaitGroup
	for range many {
		group.Go(func() {
			for round, start := range starts {
				start.come()
				start.wait()
				f(round)
			}
		})
	}
	group.Wait()
}

// meeting is where some wait until all have come.
type meeting struct {
	missing atomic.Int64
	all     chan struct{}
}

func newMeetings(n, many int) []*meeting {
	list := make([]*meeting, n)
	for i := range list {
		list[i] = &meeting{all: make(chan struct{})}
		list[i].missing.Store(int64(many))
	}
	return list
}

func (m *meeting) come() {
	if m.missing.Add(-1) == 0 {
		close(m.all)
	}
}

// wait looks some times ahead of sleeping, since those who are woken go on one behind the other.
func (m *meeting) wait() {
	for range 20000 {
		if m.missing.Load() <= 0 {
			return
		}
	}
	<-m.all
}

func TestOthersDontWaitForWhatIsCalled(t *testing.T) {
	for name, l := range openLatches() {
		expectEnd(t, func() {
			l.Do(func() {
				answers := doAtOnce(l, 8, func(int) func() { return func() { t.Errorf("%s: another f was called", name) } })
				if slices.Contains(answers, true) {
					t.Errorf("%s: %v", name, answers)
				}
			})
		})
	}
}

func TestOthersAreToldWhileItIsCalled(t *testing.T) {
	for name, l := range openLatches() {
		expectEnd(t, func() { askWhileItIsCalled(t, name, l) })
	}
}

func askWhileItIsCalled(t *testing.T, name string, l *Latch) {
	begun, goOn := make(chan struct{}), make(chan struct{})
	answer := make(chan bool, 1)
	go func() {
		answer <- l.Do(func() {
			close(begun)
			<-goOn
		})
	}()
	<-begun
	if !l.Done() || l.Do(nil) || l.Do(func() { t.Errorf("%s: another f was called", name) }) {
		t.Errorf("%s: is open while f is called", name)
	}
	if len(answer) > 0 {
		t.Errorf("%s: Do answered ahead of the end of f", name)
	}
	close(goOn)
	if !<-answer {
		t.Errorf("%s: the first Do is false", name)
	}
}

func TestManyLookWhileOthersDo(t *testing.T) {
	for range 500 {
		l := New()
		var called atomic.Bool
		over := make(chan struct{})
		var doing, looking sync.WaitGroup
		for range 4 {
			looking.Go(func() { lookUntil(t, l, &called, over) })
			doing.Go(func() {
				l.Do(func() { called.Store(true) })
				if !l.Done() {
					t.Error("not Done behind Do")
				}
			})
		}
		doing.Wait()
		close(over)
		looking.Wait()
	}
}

// lookUntil looks, until over is closed, whether Done is told as soon as f is called, and never taken back.
func lookUntil(t *testing.T, l *Latch, called *atomic.Bool, over chan struct{}) {
	was := false
	for {
		before := called.Load()
		is := l.Done()
		if !is && (was || before) {
			t.Error("Done was taken back, or came behind the call of f")
			return
		}
		was = is
		select {
		case <-over:
			return
		default:
			// On one core, those that do would else wait for those that look.
			runtime.Gosched()
		}
	}
}

func TestManyDoByANilLatch(t *testing.T) {
	answers := doAtOnce(nil, 8, func(int) func() { return func() { t.Error("f was called") } })
	if slices.Contains(answers, true) {
		t.Error(answers)
	}
}

// doAtOnce tells what each of the goroutines was answered, that began together.
func doAtOnce(l *Latch, many int, f func(i int) func()) []bool {
	answers := make([]bool, many)
	start := make(chan struct{})
	var group sync.WaitGroup
	for i := range answers {
		group.Go(func() {
			do := f(i)
			<-start
			answers[i] = l.Do(do)
		})
	}
	close(start)
	group.Wait()
	return answers
}

func expectOneTrue(t *testing.T, answers []bool) {
	t.Helper()
	n := int64(0)
	for _, yes := range answers {
		n += one(yes)
	}
	if n != 1 {
		t.Errorf("%d of %d calls of Do are true", n, len(answers))
	}
}

func one(yes bool) int64 {
	if yes {
		return 1
	}
	return 0
}
