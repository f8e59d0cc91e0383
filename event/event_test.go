package event

import (
	"fmt"
	"math"
	"slices"
	"strings"
	"testing"

	"towncrier/api"
)

const ok = api.OK

// wrongTypes are no words.
var wrongTypes = []string{
	"", " ", "-", "A", "Z", "aB", "Click", "a b", " a", "a ", "a\n", "a\x00", "\x00", "a-b", "a_b", "a.b", "#", "é", "aé", "\xff", "a\xff", "ａ", "٣", "`", "{", "/", ":", "@", "[",
	"abcdefghi", "123456789", "aaaaaaaa ", " aaaaaaaa", strings.Repeat("a", 1<<16),
}

// rightTypes are words.
var rightTypes = []string{"a", "z", "0", "9", "ab", "a0", "click", "12345", "abcdefg", "abcdefgh", "12345678", "zzzzzzz9"}

// belowNought are no nodes and not 0.
var belowNought = []int{-1, -2, -128, -129, -1 << 31, -1 << 32, -1<<32 + 1, math.MinInt, math.MinInt + 1}

// odd are numbers that fields may hold, right ones and wrong ones.
var odd = append([]int{0, 1, 2, 3, 4, 64, 128, 129, 1 << 31, 1 << 32, 1<<32 + 1, math.MaxInt}, belowNought...)

func TestTheChaptersExample(t *testing.T) {
	for _, cancelable := range []bool{true, false} {
		e := expectNew(t, "a", 0, false, cancelable, false)
		if e.Prevent() != cancelable {
			t.Errorf("cancelable %v: Prevent() = %v", cancelable, !cancelable)
		}
	}
}

// P13.1: New

func TestNew(t *testing.T) {
	for _, x := range []struct {
		what                          string
		bubbles, cancelable, composed bool
		flags                         api.Flags
	}{
		{"none", false, false, false, api.Flags{}},
		{"bubbles", true, false, false, api.Flags{Bubbles: true}},
		{"cancelable", false, true, false, api.Flags{Cancelable: true}},
		{"composed", false, false, true, api.Flags{Composed: true}},
		{"not composed", true, true, false, api.Flags{Bubbles: true, Cancelable: true}},
		{"not cancelable", true, false, true, api.Flags{Bubbles: true, Composed: true}},
		{"doesn't bubble", false, true, true, api.Flags{Cancelable: true, Composed: true}},
		{"all", true, true, true, api.Flags{Bubbles: true, Cancelable: true, Composed: true}},
	} {
		for _, typ := range rightTypes {
			for _, related := range []int{0, 1, 2, 128, 129, 1 << 31, 1 << 32, math.MaxInt} {
				e, f := New(typ, related, x.bubbles, x.cancelable, x.composed)
				if e == nil || f != ok {
					t.Fatalf("%s: New(%q, %d, ..) = %v, %v", x.what, typ, related, e, f)
				}
				expectEvent(t, x.what, e, Event{Type: typ, Related: related, Flags: x.flags})
			}
		}
	}
}

func TestNewOfWhatIsWrong(t *testing.T) {
	for _, typ := range wrongTypes {
		for _, related := range append([]int{0, 1, 128, math.MaxInt}, belowNought...) {
			expectRefused(t, typ, related)
		}
	}
	for _, typ := range rightTypes {
		for _, related := range belowNought {
			expectRefused(t, typ, related)
		}
	}
}

func TestNewTellsAnEventOfItsOwn(t *testing.T) {
	a, b := expectNew(t, "a", 1, true, true, true), expectNew(t, "a", 1, true, true, true)
	if a == b {
		t.Error("New tells the same event twice")
	}
}

// expectRefused looks whether New answers nil and ErrArg, whatever the flags are.
func expectRefused(t *testing.T, typ string, related int) {
	t.Helper()
	for bits := range 8 {
		if e, f := New(typ, related, bits&1 != 0, bits&2 != 0, bits&4 != 0); e != nil || f != api.ErrArg {
			t.Fatalf("New(%.20q, %d, ..) = %v, %v, not nil, %v", typ, related, e, f, api.ErrArg)
		}
	}
}

// P13.1: Prevent

func TestPrevent(t *testing.T) {
	for _, x := range []struct {
		what                          string
		cancelable, passive, canceled bool
		answer, behind                bool
	}{
		{"cancelable", true, false, false, true, true},
		{"cancelable, canceled", true, false, true, true, true},
		{"cancelable, passive", true, true, false, false, false},
		{"cancelable, passive, canceled", true, true, true, false, true},
		{"not cancelable", false, false, false, false, false},
		{"not cancelable, canceled", false, false, true, false, true},
		{"not cancelable, passive", false, true, false, false, false},
		{"not cancelable, passive, canceled", false, true, true, false, true},
	} {
		e := expectNew(t, "a", 0, false, x.cancelable, false)
		e.Flags.Passive, e.Flags.Canceled = x.passive, x.canceled
		want := *e
		want.Flags.Canceled = x.behind
		for range 3 {
			if answer := e.Prevent(); answer != x.answer {
				t.Errorf("%s: Prevent() = %v", x.what, answer)
			}
			expectEvent(t, x.what, e, want)
		}
	}
}

func TestPreventBehindAPassiveListener(t *testing.T) {
	e := expectNew(t, "a", 0, false, true, false)
	e.Flags.Passive = true
	if e.Prevent() {
		t.Error("true, and Passive is set")
	}
	e.Flags.Passive = false
	if !e.Prevent() || !e.Flags.Canceled {
		t.Error("false, and Passive isn't set any more")
	}
	e.Flags.Passive = true
	if e.Prevent() || !e.Flags.Canceled {
		t.Error("true, and Passive is set again; or it isn't canceled any more")
	}
}

// Whether an event is sent, stopped, bubbles or is composed, is nothing to Prevent.
func TestPreventOfEachEvent(t *testing.T) {
	expectOfEach(t, "Prevent", (*Event).Prevent, func(want *Event) bool {
		if want.Flags.Passive {
			return false
		}
		want.Flags.Canceled = want.Flags.Canceled || want.Flags.Cancelable
		return want.Flags.Cancelable
	})
}

// P13.1: Stop, StopNow

func TestStopAndStopNow(t *testing.T) {
	stop, stopNow := (*Event).Stop, (*Event).StopNow
	for _, x := range []struct {
		what          string
		calls         []func(e *Event)
		isStop, isNow bool
	}{
		{"none", nil, false, false},
		{"Stop", []func(e *Event){stop}, true, false},
		{"Stop twice", []func(e *Event){stop, stop}, true, false},
		{"StopNow", []func(e *Event){stopNow}, true, true},
		{"StopNow twice", []func(e *Event){stopNow, stopNow}, true, true},
		{"Stop, StopNow", []func(e *Event){stop, stopNow}, true, true},
		{"StopNow, Stop", []func(e *Event){stopNow, stop}, true, true},
		{"Stop, StopNow, Stop", []func(e *Event){stop, stopNow, stop}, true, true},
	} {
		e := expectNew(t, "a", 0, true, true, true)
		want := *e
		for _, call := range x.calls {
			call(e)
		}
		want.Flags.Stop, want.Flags.StopNow = x.isStop, x.isNow
		expectEvent(t, x.what, e, want)
	}
}

func TestStopOfEachEvent(t *testing.T) {
	expectOfEach(t, "Stop", done((*Event).Stop), func(want *Event) bool {
		want.Flags.Stop = true
		return false
	})
}

func TestStopNowOfEachEvent(t *testing.T) {
	expectOfEach(t, "StopNow", done((*Event).StopNow), func(want *Event) bool {
		want.Flags.Stop = true
		want.Flags.StopNow = true
		return false
	})
}

// P13.2: Begin

func TestBegin(t *testing.T) {
	e := expectNew(t, "a", 3, true, false, true)
	want := *e
	want.Flags.Dispatch = true
	for round := range 3 {
		if !e.Begin() {
			t.Fatalf("round %d: the first Begin is false", round)
		}
		expectEvent(t, "begun", e, want)
		for range 3 {
			if e.Begin() {
				t.Fatalf("round %d: true, and it is sent", round)
			}
			expectEvent(t, "begun twice", e, want)
		}
		e.End()
	}
}

// Not the flags alone: one that is sent isn't begun, whatever else it has, and one that isn't is.
func TestBeginOfEachEvent(t *testing.T) {
	expectOfEach(t, "Begin", (*Event).Begin, func(want *Event) bool {
		if want.Flags.Dispatch {
			return false
		}
		want.Flags.Dispatch = true
		return true
	})
}

// P13.2: End

func TestEnd(t *testing.T) {
	all := api.Flags{Bubbles: true, Cancelable: true, Composed: true, Canceled: true, Stop: true, StopNow: true, Passive: true, Dispatch: true}
	for _, x := range []struct {
		what          string
		flags, behind api.Flags
	}{
		{"none", api.Flags{}, api.Flags{}},
		{"Dispatch", api.Flags{Dispatch: true}, api.Flags{}},
		{"Stop", api.Flags{Stop: true}, api.Flags{}},
		{"StopNow", api.Flags{StopNow: true}, api.Flags{}},
		{"Passive", api.Flags{Passive: true}, api.Flags{}},
		{"Stop, sent", api.Flags{Stop: true, Dispatch: true}, api.Flags{}},
		{"StopNow, sent", api.Flags{Stop: true, StopNow: true, Dispatch: true}, api.Flags{}},
		{"Passive, sent", api.Flags{Passive: true, Dispatch: true}, api.Flags{}},
		{"Bubbles", api.Flags{Bubbles: true}, api.Flags{Bubbles: true}},
		{"Cancelable", api.Flags{Cancelable: true}, api.Flags{Cancelable: true}},
		{"Composed", api.Flags{Composed: true}, api.Flags{Composed: true}},
		{"Canceled", api.Flags{Canceled: true}, api.Flags{Canceled: true}},
		{"Canceled, sent", api.Flags{Cancelable: true, Canceled: true, Dispatch: true}, api.Flags{Cancelable: true, Canceled: true}},
		{"all", all, api.Flags{Bubbles: true, Cancelable: true, Composed: true, Canceled: true}},
	} {
		for _, e := range standings() {
			e.Flags = x.flags
			want := Event{Type: e.Type, Target: e.Target, Related: e.Related, Flags: x.behind}
			for range 3 {
				e.End()
				expectEvent(t, x.what, &e, want)
			}
		}
	}
}

func TestEndOfEachEvent(t *testing.T) {
	expectOfEach(t, "End", done((*Event).End), func(want *Event) bool {
		f := want.Flags
		*want = Event{Type: want.Type, Target: want.Target, Related: want.Related}
		want.Flags = api.Flags{Bubbles: f.Bubbles, Cancelable: f.Cancelable, Composed: f.Composed, Canceled: f.Canceled}
		return false
	})
}

// What an event was told in one sending isn't in the next one, but that it is canceled.
func TestSentTwice(t *testing.T) {
	e := expectNew(t, "click", 4, true, true, false)
	for _, prevents := range []bool{false, true, false} {
		canceled := e.Flags.Canceled || prevents
		if !e.Begin() {
			t.Fatal("Begin behind End is false")
		}
		e.Target, e.Current, e.Phase, e.Path = 7, 8, api.AtTarget, steps(3)
		e.StopNow()
		if prevents && !e.Prevent() {
			t.Error("Prevent is false")
		}
		e.Flags.Passive = true
		e.End()
		expectEvent(t, "sent", e, Event{Type: "click", Target: 7, Related: 4, Flags: api.Flags{Bubbles: true, Cancelable: true, Canceled: canceled}})
	}
}

// Events are apart

func TestEventsAreApart(t *testing.T) {
	calls := []func(e *Event){
		func(e *Event) { e.Prevent() }, (*Event).Stop, (*Event).StopNow, func(e *Event) { e.Begin() }, (*Event).End,
	}
	for i, call := range calls {
		a, b := expectNew(t, "a", 1, false, true, false), expectNew(t, "a", 1, false, true, false)
		a.Begin()
		b.Begin()
		a.Path, a.Current = steps(2), 5
		b.Path, b.Current = a.Path, 5
		first, second := *a, *b
		call(a)
		expectEvent(t, fmt.Sprint("the other one, call ", i), b, second)
		*a = first
		call(b)
		expectEvent(t, fmt.Sprint("the one, call ", i), a, first)
	}
}

// A copy is an event of its own: its flags aren't those of what it was copied from.
func TestACopyIsApart(t *testing.T) {
	e := expectNew(t, "a", 1, true, true, true)
	was := *e
	other := *e
	other.Begin()
	other.Prevent()
	other.StopNow()
	expectEvent(t, "copied", e, was)
	if !e.Begin() {
		t.Error("begun by its copy")
	}
}

// R4: Memory

// The path may be somebody's, and so may be what is behind its length.
func TestNoCallWritesToAPath(t *testing.T) {
	for length := range 5 {
		for bits := range 256 {
			memory := steps(8)
			e := Event{Type: "a", Path: memory[:length], Flags: flagsOf(bits)}
			e.Begin()
			e.Prevent()
			e.Stop()
			e.StopNow()
			if !slices.Equal(e.Path, memory[:length]) {
				t.Fatalf("the path became %v", e.Path)
			}
			e.End()
			// What is set behind it goes nowhere else either.
			e.Path = append(e.Path, api.Step{Node: 99})
			e.Begin()
			e.End()
			if !slices.Equal(memory, steps(8)) {
				t.Fatalf("the memory of a path of %d became %v", length, memory)
			}
		}
	}
}

// Nil

func TestNilEvent(t *testing.T) {
	var e *Event
	for range 3 {
		e.Stop()
		e.StopNow()
		e.End()
		if e.Prevent() || e.Begin() || e.Prevent() {
			t.Fatal("a nil event answers true")
		}
	}
}

// steps gives a path of n entries.
func steps(n int) []api.Step {
	var path []api.Step
	for i := range n {
		path = append(path, api.Step{Node: i + 1, Target: 1 - i%2, Related: i, ClosedRoot: i%2 == 0, ClosedSlot: i%3 == 0})
	}
	return path
}

// standings gives events of all sorts, without flags.
func standings() []Event {
	all := []Event{
		{},
		{Type: "a"},
		{Type: "click", Target: 1, Related: 2, Current: 3, Phase: api.Capturing, Path: steps(1)},
		{Type: "click", Target: 4, Current: 4, Phase: api.AtTarget, Path: steps(7)},
		{Type: "abcdefgh", Target: 128, Related: 128, Current: 128, Phase: api.Bubbling, Path: steps(128)},
		{Type: "a", Current: 3},
		{Type: "a", Phase: api.Bubbling},
		{Type: "a", Path: steps(2)},
		{Type: "a", Path: []api.Step{}},
		{Type: "a", Path: make([]api.Step, 3)},
		{Type: "no word", Target: -1, Related: -2, Current: -3, Phase: -4, Path: []api.Step{{Node: -1, Target: -1, Related: -1}}},
	}
	for i, n := range odd {
		all = append(all, Event{Type: "a", Target: n, Related: odd[len(odd)-1-i], Current: n, Phase: n})
	}
	return all
}

// flagsOf gives flags of eight bits.
func flagsOf(bits int) api.Flags {
	is := func(bit int) bool { return bits>>bit&1 != 0 }
	return api.Flags{Bubbles: is(0), Cancelable: is(1), Composed: is(2), Canceled: is(3), Stop: is(4), StopNow: is(5), Passive: is(6), Dispatch: is(7)}
}

// done makes a call that answers nothing one that answers false.
func done(call func(e *Event)) func(e *Event) bool {
	return func(e *Event) bool {
		call(e)
		return false
	}
}

// expectOfEach holds a call against what it should do, of events of all sorts with all flags, and twice: want changes an event into what it should be, and tells the answer.
func expectOfEach(t *testing.T, name string, call, want func(e *Event) bool) {
	t.Helper()
	for bits := range 256 {
		for _, e := range standings() {
			e.Flags = flagsOf(bits)
			what := fmt.Sprintf("%s of %+v", name, e)
			should := e
			should.Path = slices.Clone(e.Path)
			for range 2 {
				answer := want(&should)
				if got := call(&e); got != answer {
					t.Fatalf("%s = %v", what, got)
				}
				expectEvent(t, what, &e, should)
			}
		}
	}
}

func expectNew(t *testing.T, typ string, related int, bubbles, cancelable, composed bool) *Event {
	t.Helper()
	e, f := New(typ, related, bubbles, cancelable, composed)
	if e == nil || f != ok {
		t.Fatalf("New(%q, %d, %v, %v, %v) = %v, %v", typ, related, bubbles, cancelable, composed, e, f)
	}
	return e
}

// expectEvent looks at all that an event has.
func expectEvent(t *testing.T, what string, e *Event, want Event) {
	t.Helper()
	if e.Type != want.Type || e.Target != want.Target || e.Related != want.Related || e.Current != want.Current || e.Phase != want.Phase {
		t.Fatalf("%s: %+v, not %+v", what, *e, want)
	}
	if !slices.Equal(e.Path, want.Path) {
		t.Fatalf("%s: the path is %v, not %v", what, e.Path, want.Path)
	}
	if e.Flags != want.Flags {
		t.Fatalf("%s: the flags are %+v, not %+v", what, e.Flags, want.Flags)
	}
}
