package inner

import (
	"fmt"
	"math"
	"slices"
	"strconv"
	"strings"
	"testing"

	"towncrier/api"
	"towncrier/event"
	"towncrier/listen"
)

const ok = api.OK

// strays are numbers that are no place of a path, and have no listeners.
var strays = []int{-1, -2, -128, 129, 512, 513, 1 << 31, 1 << 32, 1<<32 + 1, math.MaxInt, math.MaxInt - 1, math.MinInt, math.MinInt + 1}

// A listener is written as the letter of its type, its callback, and its options: c captures, o is run once, p is passive. One with a point behind it was removed.

// listener gives the listener of a text, and whether it was removed.
func listener(text string) (api.Listener, bool) {
	x := api.Listener{Type: text[:1]}
	digits := strings.TrimRight(text[1:], "cop.")
	x.Callback, _ = strconv.Atoi(digits)
	options := text[1+len(digits):]
	x.Capture = strings.Contains(options, "c")
	x.Once = strings.Contains(options, "o")
	x.Passive = strings.Contains(options, "p")
	return x, strings.Contains(options, ".")
}

// lists gives lists of texts, each of which is a node and the listeners that are added at it.
func lists(t *testing.T, texts ...string) *listen.Lists {
	t.Helper()
	l := listen.New()
	for _, text := range texts {
		parts := strings.Fields(text)
		node, f := strconv.Atoi(parts[0])
		if f != nil {
			t.Fatal(f)
		}
		for _, part := range parts[1:] {
			x, gone := listener(part)
			id := add(t, l, node, x)
			if gone {
				kill(t, l, id)
			}
		}
	}
	return l
}

func add(t *testing.T, l *listen.Lists, node int, x api.Listener) int {
	t.Helper()
	id, f := l.Add(node, x)
	if id == 0 || f != ok {
		t.Fatalf("Add(%d, %+v) = %d, %v", node, x, id, f)
	}
	return id
}

// addText adds the listener of a text.
func addText(t *testing.T, l *listen.Lists, node int, text string) int {
	t.Helper()
	x, _ := listener(text)
	return add(t, l, node, x)
}

func kill(t *testing.T, l *listen.Lists, id int) {
	t.Helper()
	if !l.Kill(id) {
		t.Fatalf("Kill(%d) = false", id)
	}
}

// sent gives an event of the type a that is sent along a path.
func sent(t *testing.T, p ...api.Step) *event.Event {
	t.Helper()
	e, f := event.New("a", 0, true, true, true)
	if f != ok || !e.Begin() {
		t.Fatal(e, f)
	}
	e.Path = p
	return e
}

// atSix gives an event of the type a whose path is the node 6 alone, and the turn of it that isn't on the capturing way.
func atSix(t *testing.T) (*event.Event, api.Turn) {
	t.Helper()
	return sent(t, api.Step{Node: 6, Target: 6}), api.Turn{Phase: api.AtTarget}
}

// way is a path of which some entries have a target, and some none.
func way() []api.Step {
	return []api.Step{
		{Node: 2, Target: 2, Related: 9},
		{Node: 6, Related: 8, ClosedSlot: true},
		{Node: 7},
		{Node: 5, Target: 4, ClosedRoot: true},
		{Node: 3, Target: 3, Related: 3},
		{Node: 4, Related: 2},
		{Node: 6, Related: 7},
	}
}

// wayTargets tells the targets that are told at the places of way.
var wayTargets = [...]int{2, 2, 2, 4, 3, 3, 3}

func TestTheChaptersExample(t *testing.T) {
	e, turn := atSix(t)
	l := lists(t, "6 a1 a2")
	n := Run(e, l, turn, func(api.Listener) { kill(t, l, 2) })
	if n != 1 {
		t.Error("Run =", n)
	}
}

// P17.1: what an event tells

// notes writes what an event tells in a turn.
func notes(e *event.Event) string {
	return fmt.Sprint("phase ", e.Phase, ", target ", e.Target, ", related ", e.Related, ", current ", e.Current)
}

func TestWhatAnEventTellsInATurn(t *testing.T) {
	for at, s := range way() {
		for _, phase := range append([]int{api.None, api.Capturing, api.AtTarget, api.Bubbling, 4}, strays...) {
			for _, capture := range []bool{false, true} {
				e := sent(t, way()...)
				e.Phase, e.Target, e.Related, e.Current = 77, 77, 77, 77
				l := lists(t, "2 a1 a1c", "3 a1 a1c", "4 a1 a1c", "5 a1 a1c", "6 a1 a1c", "7 a1 a1c")
				turn := api.Turn{At: at, Phase: phase, Capture: capture}
				want := fmt.Sprint("phase ", phase, ", target ", wayTargets[at], ", related ", s.Related, ", current ", s.Node)
				n := Run(e, l, turn, func(x api.Listener) {
					if got := notes(e); got != want || l.Where(x.Id) != s.Node {
						t.Errorf("within %+v, listener %d: %s, not %s", turn, x.Id, got, want)
					}
				})
				if n != 1 {
					t.Errorf("Run at %+v = %d", turn, n)
				}
				if got := notes(e); got != want {
					t.Errorf("behind %+v: %s, not %s", turn, got, want)
				}
			}
		}
	}
}

func TestWhatAnEventTellsWhereNobodyIsCalled(t *testing.T) {
	for _, x := range []struct {
		what  string
		lists *listen.Lists
	}{
		{"nil lists", nil},
		{"zero lists", &listen.Lists{}},
		{"new lists", listen.New()},
		{"listeners at other nodes", lists(t, "1 a1", "8 a1", "77 a1", "9 a1c")},
		{"removed ones", lists(t, "2 a1. a2.", "6 a1.", "7 a1. a1c.", "5 a1.", "3 a1.", "4 a1.")},
		{"of other types", lists(t, "2 b1", "6 c1 b2", "7 d1", "5 b1", "3 b1", "4 b1")},
		{"that capture", lists(t, "2 a1c", "6 a1c", "7 a1c a2c", "5 a1c", "3 a1c", "4 a1c")},
	} {
		for at, s := range way() {
			e := sent(t, way()...)
			e.Phase, e.Target, e.Related, e.Current = 77, 77, 77, 77
			expectRun(t, e, x.lists, api.Turn{At: at, Phase: api.Bubbling})
			want := fmt.Sprint("phase 3, target ", wayTargets[at], ", related ", s.Related, ", current ", s.Node)
			if got := notes(e); got != want {
				t.Errorf("%s, at %d: %s, not %s", x.what, at, got, want)
			}
		}
	}
}

// No entry ahead of these has a target, but those behind them have one.
func TestNoTarget(t *testing.T) {
	for _, target := range []int{0, 5} {
		e := sent(t, api.Step{Node: 6}, api.Step{Node: 7, Related: 3}, api.Step{Node: 5, Target: target})
		l := lists(t, "6 a1", "7 a1")
		for at, want := range []string{"phase 3, target 0, related 0, current 6", "phase 3, target 0, related 3, current 7"} {
			e.Target, e.Related = 77, 77
			n := Run(e, l, api.Turn{At: at, Phase: api.Bubbling}, func(api.Listener) {
				if got := notes(e); got != want {
					t.Errorf("at %d: %s, not %s", at, got, want)
				}
			})
			if n != 1 {
				t.Errorf("Run at %d = %d", at, n)
			}
		}
	}
}

// The numbers of an entry are told as they stand there: a forest may have no such nodes.
func TestEntriesOfOddNumbers(t *testing.T) {
	for _, odd := range append([]int{0}, strays...) {
		e := sent(t, api.Step{Node: odd, Target: odd, Related: odd})
		e.Target, e.Related, e.Current = 77, 77, 77
		l := lists(t, "1 a1", "77 a1")
		want := 0
		if odd > 0 {
			addText(t, l, odd, "a1")
			want = 1
		}
		n := Run(e, l, api.Turn{Phase: api.AtTarget}, nil)
		if n != want || notes(e) != fmt.Sprint("phase 2, target ", odd, ", related ", odd, ", current ", odd) {
			t.Errorf("node %d: Run = %d, %s", odd, n, notes(e))
		}
	}
}

// What an event has besides stays: its type, its path and its other flags.
func TestTheRestOfAnEventStays(t *testing.T) {
	for bits := range 256 {
		for _, text := range []string{"6 a1", "6 a1p", "6 a1o", "6 b1", "7 a1"} {
			e, turn := atSix(t)
			e.Flags = flagsOf(bits)
			want := e.Flags
			if text[2] == 'a' && text[0] == '6' && !want.Stop {
				want.Passive = false
			}
			Run(e, lists(t, text), turn, func(x api.Listener) {
				within := want
				within.Passive = x.Passive
				if e.Flags != within {
					t.Errorf("%s, within: %+v, not %+v", text, e.Flags, within)
				}
			})
			if e.Flags != want || e.Type != "a" || !slices.Equal(e.Path, []api.Step{{Node: 6, Target: 6}}) {
				t.Errorf("%s: %+v, flags not %+v", text, *e, want)
			}
		}
	}
}

// flagsOf gives flags of eight bits.
func flagsOf(bits int) api.Flags {
	is := func(bit int) bool { return bits>>bit&1 != 0 }
	return api.Flags{Bubbles: is(0), Cancelable: is(1), Composed: is(2), Canceled: is(3), Stop: is(4), StopNow: is(5), Passive: is(6), Dispatch: is(7)}
}

// P17.1: an event that is stopped

func TestStopAheadOfTheTurn(t *testing.T) {
	for _, now := range []bool{false, true} {
		for _, passive := range []bool{false, true} {
			for at, s := range way() {
				e := sent(t, way()...)
				e.Phase, e.Target, e.Related, e.Current = 77, 77, 77, 78
				e.Flags.Stop, e.Flags.StopNow, e.Flags.Passive = true, now, passive
				flags := e.Flags
				l := lists(t, "2 a1 a2o", "6 a1o", "7 a1p", "5 a1", "3 a1", "4 a1")
				expectRun(t, e, l, api.Turn{At: at, Phase: api.Bubbling})
				want := fmt.Sprint("phase 3, target ", wayTargets[at], ", related ", s.Related, ", current 78")
				if got := notes(e); got != want || e.Flags != flags {
					t.Errorf("at %d: %s, not %s; %+v, not %+v", at, got, want, e.Flags, flags)
				}
				expectRemoved(t, l)
			}
		}
	}
}

func TestStopOfAnEventThatHadNone(t *testing.T) {
	e, turn := atSix(t)
	l := lists(t, "6 a1 a2")
	expectRun(t, e, l, turn, 1, 2)
	e.Current = 0
	e.Stop()
	expectRun(t, e, l, turn)
	if e.Current != 0 {
		t.Error("Current is set:", e.Current)
	}
	e.Flags.Stop = false
	expectRun(t, e, l, turn, 1, 2)
	if e.Current != 6 {
		t.Error("Current isn't set:", e.Current)
	}
}

// P17.1: who is called

// callings tells who is called of an event of the type a, at the node 6, on both ways.
var callings = []struct {
	what                string
	lists               []string
	capturing, bubbling []int
}{
	{"nobody anywhere", nil, nil, nil},
	{"a node without listeners", []string{"5 a1", "7 a1c"}, nil, nil},
	{"one", []string{"6 a1"}, nil, []int{1}},
	{"one that captures", []string{"6 a1c"}, []int{1}, nil},
	{"the same callback on both ways", []string{"6 a1 a1c"}, []int{2}, []int{1}},
	{"three in their order", []string{"6 a3 a1 a2"}, nil, []int{1, 2, 3}},
	{"three that capture, in their order", []string{"6 a3c a1c a2c"}, []int{1, 2, 3}, nil},
	{"by turns", []string{"6 a1 a2c a3 a4c a5 a6c"}, []int{2, 4, 6}, []int{1, 3, 5}},
	{"other nodes ahead", []string{"5 a1 a2", "6 a1 a2c", "7 a1c"}, []int{4}, []int{3}},
	{"other nodes between", []string{"6 a1", "5 a1", "6 a2", "7 a2 a3c", "6 a3c"}, []int{6}, []int{1, 3}},
	{"other types", []string{"6 b1 a1 c1 a2c b2c"}, []int{4}, []int{2}},
	{"other types alone", []string{"6 b1 c1 b2c"}, nil, nil},
	{"a once listener", []string{"6 a1o a2oc a3o"}, []int{2}, []int{1, 3}},
	{"a passive listener", []string{"6 a1p a2pc a3p"}, []int{2}, []int{1, 3}},
	{"all options", []string{"6 a1cop a2op a3cp a4co a5c a6o a7p a8"}, []int{1, 3, 4, 5}, []int{2, 6, 7, 8}},
	{"a removed one", []string{"6 a1."}, nil, nil},
	{"removed ones", []string{"6 a1. a2. a3c. a4c."}, nil, nil},
	{"a removed one first", []string{"6 a1. a2 a1c. a2c"}, []int{4}, []int{2}},
	{"a removed one between", []string{"6 a1 a2. a3"}, nil, []int{1, 3}},
	{"a removed one last", []string{"6 a1 a2 a3."}, nil, []int{1, 2}},
	{"a removed one, added again", []string{"6 a1. a2 a1"}, nil, []int{2, 3}},
	{"of other types, captures, removed, elsewhere", []string{"6 a1 b1 a1c a2.", "7 a1 a1c", "6 a2 b1c a3c. a3"}, []int{3}, []int{1, 7, 10}},
}

func TestWhoIsCalled(t *testing.T) {
	for _, x := range callings {
		for _, phase := range []int{api.None, api.Capturing, api.AtTarget, api.Bubbling, -1, 4} {
			e, _ := atSix(t)
			expectRun(t, e, lists(t, x.lists...), api.Turn{Phase: phase}, x.bubbling...)
			expectRun(t, e, lists(t, x.lists...), api.Turn{Phase: phase, Capture: true}, x.capturing...)
		}
	}
}

func TestTypes(t *testing.T) {
	for _, x := range []struct {
		event string
		want  []int
	}{
		{"a", []int{1, 6}}, {"ab", []int{2}}, {"b", []int{3}}, {"abcdefgh", []int{4}}, {"0", []int{5}},
		{"", nil}, {"c", nil}, {"A", nil}, {"a ", nil}, {" a", nil}, {"a\x00", nil}, {"abcdefg", nil}, {"abcdefghi", nil}, {"abc", nil}, {"\xff", nil}, {strings.Repeat("a", 1<<16), nil},
	} {
		e, turn := atSix(t)
		e.Type = x.event
		l := listen.New()
		for _, typ := range []string{"a", "ab", "b", "abcdefgh", "0"} {
			add(t, l, 6, api.Listener{Type: typ, Callback: 1})
		}
		add(t, l, 6, api.Listener{Type: "a", Callback: 2})
		expectRun(t, e, l, turn, x.want...)
	}
}

// A node that has several entries has its listeners called at each.
func TestANodeTwiceInThePath(t *testing.T) {
	e := sent(t, way()...)
	l := lists(t, "6 a1 a2c a3")
	for _, at := range []int{1, 6, 1} {
		expectRun(t, e, l, api.Turn{At: at, Phase: api.Bubbling}, 1, 3)
		expectRun(t, e, l, api.Turn{At: at, Phase: api.Capturing, Capture: true}, 2)
	}
}

// P17.1: once listeners

func TestAOnceListenerIsGoneWhenItIsCalled(t *testing.T) {
	e, turn := atSix(t)
	l := lists(t, "6 a1 a2o a3 a4o")
	gone := map[int][]int{1: nil, 2: {2}, 3: {2}, 4: {2, 4}}
	n := Run(e, l, turn, func(x api.Listener) {
		expectRemoved(t, l, gone[x.Id]...)
		if found := l.Find(6, "a", x.Callback, false); (found == 0) != x.Once {
			t.Errorf("listener %d is found as %d", x.Id, found)
		}
	})
	if n != 4 {
		t.Error("Run =", n)
	}
	expectRemoved(t, l, 2, 4)
}

func TestAOnceListenerIsCalledOnce(t *testing.T) {
	e, turn := atSix(t)
	l := lists(t, "6 a1o a2 a3oc a4o b5o")
	expectRun(t, e, l, turn, 1, 2, 4)
	expectRemoved(t, l, 1, 4)
	expectRun(t, e, l, turn, 2)
	turn.Capture = true
	expectRun(t, e, l, turn, 3)
	expectRemoved(t, l, 1, 3, 4)
	expectRun(t, e, l, turn)
	e.Type = "b"
	turn.Capture = false
	expectRun(t, e, l, turn, 5)
	expectRun(t, e, l, turn)
	expectRemoved(t, l, 1, 3, 4, 5)
}

// One that isn't called stays.
func TestAOnceListenerThatIsLeftOutStays(t *testing.T) {
	e, turn := atSix(t)
	l := lists(t, "6 b1o a1co a2", "7 a1o")
	expectRun(t, e, l, turn, 3)
	expectRemoved(t, l)
	addText(t, l, 6, "a3o")
	Run(e, l, turn, func(api.Listener) { e.StopNow() })
	expectRemoved(t, l)
	Run(e, l, turn, nil)
	expectRemoved(t, l)
}

// P17.1: passive listeners

func TestPassive(t *testing.T) {
	for _, ahead := range []bool{false, true} {
		e, turn := atSix(t)
		e.Flags.Passive = ahead
		l := lists(t, "6 b9p a1 a2p a3 a4p a5p a6")
		var got []bool
		n := Run(e, l, turn, func(x api.Listener) { got = append(got, e.Flags.Passive) })
		if n != 6 || !slices.Equal(got, []bool{false, true, false, true, true, false}) || e.Flags.Passive {
			t.Errorf("Run = %d, %v, behind it %v", n, got, e.Flags.Passive)
		}
	}
}

// Passive isn't set any more, also where the last one is passive, or the rest are left out.
func TestPassiveBehindTheTurn(t *testing.T) {
	for _, text := range []string{"6 a1p", "6 a1 a2p", "6 a1p a2p", "6 a1po a2p"} {
		for stops := range 2 {
			e, turn := atSix(t)
			n := Run(e, lists(t, text), turn, func(api.Listener) {
				if stops == 1 {
					e.StopNow()
				}
			})
			if n == 0 || e.Flags.Passive {
				t.Errorf("%s: Run = %d, passive %v", text, n, e.Flags.Passive)
			}
		}
	}
}

// It isn't set behind any call, whoever set it.
func TestPassiveThatIsSetWithinACall(t *testing.T) {
	e, turn := atSix(t)
	l := lists(t, "6 a1 a2p a3")
	n := Run(e, l, turn, func(x api.Listener) {
		if e.Flags.Passive != x.Passive {
			t.Errorf("listener %d: passive %v", x.Id, e.Flags.Passive)
		}
		e.Flags.Passive = !x.Passive
	})
	if n != 3 || e.Flags.Passive {
		t.Error("Run =", n, "passive", e.Flags.Passive)
	}
}

func TestAPassiveListenerCannotPrevent(t *testing.T) {
	e, turn := atSix(t)
	l := lists(t, "6 a1p a2")
	n := Run(e, l, turn, func(x api.Listener) {
		if did := e.Prevent(); did == x.Passive || e.Flags.Canceled == x.Passive {
			t.Errorf("listener %d: Prevent() = %v, canceled %v", x.Id, did, e.Flags.Canceled)
		}
	})
	if n != 2 || !e.Flags.Canceled {
		t.Error("Run =", n, "canceled", e.Flags.Canceled)
	}
}

// P17.1: StopNow and Stop

func TestStopNowLeavesOutTheRest(t *testing.T) {
	for _, x := range []struct {
		lists string
		by    int
		want  []int
	}{
		{"6 a1 a2 a3", 1, []int{1}},
		{"6 a1 a2 a3", 2, []int{1, 2}},
		{"6 a1 a2 a3", 3, []int{1, 2, 3}},
		{"6 a1o a2o a3o", 1, []int{1}},
		{"6 a1p a2p a3p", 2, []int{1, 2}},
		{"6 b1 a1 a1c a2 a3", 2, []int{2}},
		{"6 a1", 1, []int{1}},
		{"6 a1 a2 a3", 9, []int{1, 2, 3}},
	} {
		e, turn := atSix(t)
		l := lists(t, x.lists)
		expectRunWith(t, e, l, turn, func(y api.Listener) {
			if y.Id == x.by {
				e.StopNow()
			}
		}, x.want...)
		if e.Flags.Stop != slices.Contains(x.want, x.by) || e.Flags.StopNow != e.Flags.Stop {
			t.Errorf("%s, stopped by %d: %+v", x.lists, x.by, e.Flags)
		}
	}
}

func TestStopCallsTheOthersOfTheNode(t *testing.T) {
	for by := 1; by <= 4; by++ {
		e, turn := atSix(t)
		l := lists(t, "6 a1 a2 b1 a3")
		expectRunWith(t, e, l, turn, func(y api.Listener) {
			if y.Id == by {
				e.Stop()
			}
		}, 1, 2, 4)
		if e.Flags.Stop != (by != 3) || e.Flags.StopNow {
			t.Errorf("stopped by %d: %+v", by, e.Flags)
		}
		// The turn behind it calls nobody any more.
		if by != 3 {
			expectRun(t, e, l, turn)
		}
	}
}

// The flag is looked at behind each call, so the first one is called.
func TestStopNowAheadOfTheTurn(t *testing.T) {
	for _, x := range callings {
		e, turn := atSix(t)
		e.Flags.StopNow = true
		want := x.bubbling[:min(1, len(x.bubbling))]
		expectRun(t, e, lists(t, x.lists...), turn, want...)
		if !e.Flags.StopNow || e.Flags.Stop {
			t.Errorf("%s: %+v", x.what, e.Flags)
		}
	}
}

func TestStopNowThatIsTakenBack(t *testing.T) {
	e, turn := atSix(t)
	l := lists(t, "6 a1 a2 a3")
	e.Flags.StopNow = true
	expectRunWith(t, e, l, turn, func(x api.Listener) { e.Flags.StopNow = x.Id == 2 }, 1, 2)
	// Of another event it means nothing.
	other, _ := atSix(t)
	expectRunWith(t, other, l, turn, func(api.Listener) { e.StopNow() }, 1, 2, 3)
}

// P17.1: what call is handed

func TestWhatCallIsHanded(t *testing.T) {
	options := []api.Options{
		{}, {Signal: 1}, {Signal: math.MaxInt}, {Once: true}, {Passive: true}, {Once: true, Passive: true, Signal: 64},
		{Capture: true}, {Capture: true, Once: true, Signal: 2}, {Capture: true, Passive: true}, {Capture: true, Once: true, Passive: true},
	}
	for _, capture := range []bool{false, true} {
		e, turn := atSix(t)
		turn.Capture = capture
		l := listen.New()
		var want []api.Listener
		for i, o := range options {
			x := api.Listener{Type: "a", Callback: []int{i + 1, math.MaxInt - i}[i%2], Options: o}
			x.Id = add(t, l, 6, x)
			if o.Capture == capture {
				want = append(want, x)
			}
		}
		var got []api.Listener
		n := Run(e, l, turn, func(x api.Listener) { got = append(got, x) })
		if n != len(want) || !slices.Equal(got, want) {
			t.Errorf("capture %v: Run = %d, %+v, not %+v", capture, n, got, want)
		}
	}
}

// A listener is handed as it was when the turn was begun: not removed, though it is by now.
func TestWhatIsHandedOfOneThatIsGone(t *testing.T) {
	e, turn := atSix(t)
	l := lists(t, "6 a1o a2op")
	n := Run(e, l, turn, func(x api.Listener) {
		now, _ := l.Get(x.Id)
		if x.Removed || !now.Removed {
			t.Errorf("listener %d: handed as removed %v, is removed %v", x.Id, x.Removed, now.Removed)
		}
		now.Removed = false
		if now != x {
			t.Errorf("listener %d: %+v, handed as %+v", x.Id, now, x)
		}
	})
	if n != 2 {
		t.Error("Run =", n)
	}
}

// P17.1: a nil call

func TestNilCall(t *testing.T) {
	for _, x := range callings {
		e, turn := atSix(t)
		e.Flags.Passive = true
		l := lists(t, x.lists...)
		if n := Run(e, l, turn, nil); n != len(x.bubbling) {
			t.Errorf("%s: Run = %d", x.what, n)
		}
		if got := notes(e); got != "phase 2, target 6, related 0, current 6" {
			t.Errorf("%s: %s", x.what, got)
		}
		if e.Flags.Passive != (len(x.bubbling) == 0) {
			t.Errorf("%s: passive %v", x.what, e.Flags.Passive)
		}
		for _, id := range x.bubbling {
			if y, _ := l.Get(id); y.Removed != y.Once {
				t.Errorf("%s: behind the turn %+v", x.what, y)
			}
		}
	}
}

func TestNilCallOfAStoppedEvent(t *testing.T) {
	e, turn := atSix(t)
	l := lists(t, "6 a1o a2o")
	e.Stop()
	if n := Run(e, l, turn, nil); n != 0 {
		t.Error("stopped: Run =", n)
	}
	expectRemoved(t, l)
	e.Flags.Stop, e.Flags.StopNow = false, true
	if n := Run(e, l, turn, nil); n != 1 {
		t.Error("stopped now: Run =", n)
	}
	expectRemoved(t, l, 1)
}

// P17.1: no such place

func TestPlacesThatAreNotInThePath(t *testing.T) {
	for size := range 8 {
		for _, at := range append([]int{size, size + 1, size + 2}, strays...) {
			for _, capture := range []bool{false, true} {
				e := sent(t, way()[:size]...)
				e.Phase, e.Target, e.Related, e.Current = 75, 76, 77, 78
				l := lists(t, "2 a1 a1c", "3 a1 a1co", "4 a1 a1c", "5 a1 a1c", "6 a1 a1c", "7 a1 a1co")
				expectNothing(t, e, l, api.Turn{At: at, Phase: api.Bubbling, Capture: capture})
			}
		}
	}
}

func TestTheFirstPlaceAndTheLastOne(t *testing.T) {
	for size := 1; size <= 7; size++ {
		e := sent(t, way()[:size]...)
		l := lists(t, "2 a1", "3 a1", "4 a1", "5 a1", "6 a1", "7 a1")
		for _, at := range []int{0, size - 1} {
			n := Run(e, l, api.Turn{At: at}, func(x api.Listener) {
				if l.Where(x.Id) != way()[at].Node {
					t.Errorf("at %d of %d: listener %d is called", at, size, x.Id)
				}
			})
			if n != 1 {
				t.Errorf("at %d of %d: Run = %d", at, size, n)
			}
		}
	}
}

// What lies behind the path's length isn't read.
func TestWhatIsBehindThePath(t *testing.T) {
	whole := way()
	e := sent(t, whole[:2]...)
	e.Phase, e.Target, e.Related, e.Current = 75, 76, 77, 78
	l := lists(t, "6 a1", "7 a1", "5 a1")
	for at := 2; at < len(whole); at++ {
		expectNothing(t, e, l, api.Turn{At: at, Phase: api.Bubbling})
	}
	expectRun(t, e, l, api.Turn{At: 1, Phase: api.Bubbling}, 1)
	if !slices.Equal(whole, way()) {
		t.Error("written to:", whole)
	}
}

func TestEventsWithoutAPath(t *testing.T) {
	fresh, _ := event.New("a", 5, true, true, true)
	ended := sent(t, way()...)
	ended.End()
	for _, e := range []*event.Event{fresh, ended, {}, {Type: "a"}, {Type: "a", Path: []api.Step{}}} {
		for _, at := range append([]int{0, 1}, strays...) {
			expectNothing(t, e, lists(t, "2 a1", "6 a1o"), api.Turn{At: at, Phase: api.AtTarget})
		}
	}
}

func TestNilEvent(t *testing.T) {
	for _, at := range append([]int{0, 1}, strays...) {
		for _, l := range []*listen.Lists{nil, {}, lists(t, "6 a1 a2o")} {
			expectNothing(t, nil, l, api.Turn{At: at, Phase: api.AtTarget})
		}
	}
}

func TestNilAndZeroLists(t *testing.T) {
	for _, l := range []*listen.Lists{nil, {}, listen.New()} {
		for _, stop := range []bool{false, true} {
			e, turn := atSix(t)
			e.Flags.Stop = stop
			expectRun(t, e, l, turn)
			if n := Run(e, l, turn, nil); n != 0 {
				t.Error("Run =", n)
			}
			if (e.Current == 6) == stop {
				t.Error("stop", stop, "current", e.Current)
			}
		}
	}
}

func TestZeroListsThatTookSome(t *testing.T) {
	l := &listen.Lists{}
	addText(t, l, 6, "a1o")
	addText(t, l, 6, "a2")
	e, turn := atSix(t)
	expectRun(t, e, l, turn, 1, 2)
	expectRun(t, e, l, turn, 2)
}

// A zero event is of no type, so nobody listens to it; but it tells what it does.
func TestZeroEventWithAPath(t *testing.T) {
	e := &event.Event{Path: way()}
	expectRun(t, e, lists(t, "7 a1 b1"), api.Turn{At: 2, Phase: api.Bubbling})
	if got := notes(e); got != "phase 3, target 2, related 0, current 7" {
		t.Error(got)
	}
}

// P17.2: Would

// Would tells what Run calls is asked by expectRun, wherever nothing changes in between; here is what it leaves as it is.
func TestWouldChangesNothing(t *testing.T) {
	for bits := range 256 {
		for at := -1; at <= len(way()); at++ {
			for _, capture := range []bool{false, true} {
				e := sent(t, way()...)
				e.Phase, e.Target, e.Related, e.Current, e.Flags = 75, 76, 77, 78, flagsOf(bits)
				l := lists(t, "2 a1 a2o b1", "6 a1o a1co a2p", "7 a1c. a2co a3cp", "5 a1o a2p")
				want, listeners := *e, listenersOf(l)
				turn := api.Turn{At: at, Phase: api.Bubbling, Capture: capture}
				first := Would(e, l, turn)
				second := Would(e, l, turn)
				if !slices.Equal(first, second) {
					t.Fatalf("Would(%+v) = %v, then %v", turn, first, second)
				}
				expectEvent(t, e, want)
				if !slices.Equal(e.Path, way()) || !slices.Equal(listenersOf(l), listeners) {
					t.Fatalf("Would(%+v) changes %v, %v", turn, e.Path, listenersOf(l))
				}
			}
		}
	}
}

func TestWouldWithOnceListeners(t *testing.T) {
	e, turn := atSix(t)
	l := lists(t, "6 a1o a2 a3o a4o. a5oc")
	for range 3 {
		expectWould(t, e, l, turn, 1, 2, 3)
	}
	Run(e, l, turn, nil)
	for range 3 {
		expectWould(t, e, l, turn, 2)
	}
	turn.Capture = true
	expectWould(t, e, l, turn, 5)
}

func TestWouldOfStoppedEvents(t *testing.T) {
	for _, x := range []struct {
		stop, now bool
		want      []int
	}{
		{false, false, []int{2, 3, 4}}, {true, false, nil}, {false, true, []int{2}}, {true, true, nil},
	} {
		e, turn := atSix(t)
		e.Flags.Stop, e.Flags.StopNow = x.stop, x.now
		expectWould(t, e, lists(t, "6 b1 a1 a2o a3"), turn, x.want...)
	}
}

// Would asks nobody, so what they would do isn't in it.
func TestWouldWithinATurn(t *testing.T) {
	e, turn := atSix(t)
	l := lists(t, "6 a1 a2o a3 a4")
	n := Run(e, l, turn, func(x api.Listener) {
		switch x.Id {
		case 1:
			expectWould(t, e, l, turn, 1, 2, 3, 4)
			kill(t, l, 4)
			expectWould(t, e, l, turn, 1, 2, 3)
		case 2:
			expectWould(t, e, l, turn, 1, 3)
			addText(t, l, 6, "a5")
			expectWould(t, e, l, turn, 1, 3, 5)
		case 3:
			e.Flags.StopNow = true
			expectWould(t, e, l, turn, 1)
			e.Stop()
			expectWould(t, e, l, turn)
		}
	})
	if n != 3 {
		t.Error("Run =", n)
	}
}

// P17.3: listeners that are added

func TestAddedWhileATurnRuns(t *testing.T) {
	for _, x := range []struct {
		what   string
		by     []int
		called int
		behind []int
	}{
		{"by the first one", []int{1}, 3, []int{1, 2, 3, 4}},
		{"by one between", []int{2}, 3, []int{1, 2, 3, 4}},
		{"by the last one", []int{3}, 3, []int{1, 2, 3, 4}},
		{"by each", []int{1, 2, 3}, 3, []int{1, 2, 3, 4, 5, 6}},
		{"by none", nil, 3, []int{1, 2, 3}},
	} {
		e, turn := atSix(t)
		l := lists(t, "6 a1 a2 a3")
		expectRunWith(t, e, l, turn, func(y api.Listener) {
			if slices.Contains(x.by, y.Id) {
				addText(t, l, 6, "a"+strconv.Itoa(10+y.Id))
			}
		}, 1, 2, 3)
		expectRun(t, e, l, turn, x.behind...)
	}
}

// One that is added by each that is called would be without end, were they called.
func TestAddedUntilTheListsAreFull(t *testing.T) {
	e, turn := atSix(t)
	l := lists(t, "6 a1")
	all := []int{1}
	for len(all) < 64 {
		n := Run(e, l, turn, func(x api.Listener) { l.Add(6, api.Listener{Type: "a", Callback: 1000 + l.Len()}) })
		if n != len(all) {
			t.Fatalf("Run = %d of %d", n, len(all))
		}
		for range n {
			all = append(all, len(all)+1)
		}
		expectWould(t, e, l, turn, all...)
	}
}

// The node's own list is the only one at the beginning: what is added leaves the turn at the node as it is.
func TestAddedAtANodeThatBecomesEmpty(t *testing.T) {
	e, turn := atSix(t)
	l := lists(t, "6 a1o")
	expectRunWith(t, e, l, turn, func(api.Listener) {
		addText(t, l, 6, "a2")
		addText(t, l, 6, "a3")
	}, 1)
	expectRun(t, e, l, turn, 2, 3)
}

// P17.3: listeners that are removed

func TestRemovedWhileATurnRuns(t *testing.T) {
	for _, x := range []struct {
		what     string
		lists    []string
		by, kill int
		want     []int
	}{
		{"the first one removes the second one", []string{"6 a1 a2 a3"}, 1, 2, []int{1, 3}},
		{"the first one removes the last one", []string{"6 a1 a2 a3"}, 1, 3, []int{1, 2}},
		{"the second one removes the last one", []string{"6 a1 a2 a3"}, 2, 3, []int{1, 2}},
		{"one removes itself, first", []string{"6 a1 a2 a3"}, 1, 1, []int{1, 2, 3}},
		{"one removes itself, between", []string{"6 a1 a2 a3"}, 2, 2, []int{1, 2, 3}},
		{"one removes itself, last", []string{"6 a1 a2 a3"}, 3, 3, []int{1, 2, 3}},
		{"the second one removes the first one", []string{"6 a1 a2 a3"}, 2, 1, []int{1, 2, 3}},
		{"the last one removes the first one", []string{"6 a1 a2 a3"}, 3, 1, []int{1, 2, 3}},
		{"the last one removes the second one", []string{"6 a1 a2 a3"}, 3, 2, []int{1, 2, 3}},
		{"one that captures is removed", []string{"6 a1 a2c a3"}, 1, 2, []int{1, 3}},
		{"one of another type is removed", []string{"6 a1 b2 a3"}, 1, 2, []int{1, 3}},
		{"a once listener is removed", []string{"6 a1 a2o a3"}, 1, 2, []int{1, 3}},
		{"a passive listener is removed", []string{"6 a1 a2p a3"}, 1, 2, []int{1, 3}},
		{"a once listener removes one", []string{"6 a1o a2 a3o"}, 1, 2, []int{1, 3}},
		{"one at another node is removed", []string{"6 a1 a2 a3", "7 a1"}, 1, 4, []int{1, 2, 3}},
	} {
		e, turn := atSix(t)
		l := lists(t, x.lists...)
		expectRunWith(t, e, l, turn, func(y api.Listener) {
			if y.Id == x.by {
				kill(t, l, x.kill)
			}
		}, x.want...)
	}
}

func TestAllRemovedByTheFirstOne(t *testing.T) {
	e, turn := atSix(t)
	l := lists(t, "6 a1 a2 a3o a4p")
	expectRunWith(t, e, l, turn, func(api.Listener) {
		for id := 1; id <= 4; id++ {
			kill(t, l, id)
		}
	}, 1)
	expectRun(t, e, l, turn)
	expectRemoved(t, l, 1, 2, 3, 4)
}

// A once listener is gone when it is called: it can't be removed any more.
func TestAOnceListenerThatRemovesItself(t *testing.T) {
	e, turn := atSix(t)
	l := lists(t, "6 a1o a2")
	expectRunWith(t, e, l, turn, func(x api.Listener) {
		if did := l.Kill(x.Id); did == x.Once {
			t.Errorf("Kill(%d) = %v", x.Id, did)
		}
	}, 1, 2)
}

func TestRemovedAndAddedAnew(t *testing.T) {
	for _, x := range []struct {
		what     string
		by, kill int
		want     []int
		behind   []int
	}{
		{"the second one, by the first one", 1, 2, []int{1, 3}, []int{1, 3, 4}},
		{"the last one, by the first one", 1, 3, []int{1, 2}, []int{1, 2, 4}},
		{"the first one, by itself", 1, 1, []int{1, 2, 3}, []int{2, 3, 4}},
		{"the last one, by itself", 3, 3, []int{1, 2, 3}, []int{1, 2, 4}},
		{"the first one, by the last one", 3, 1, []int{1, 2, 3}, []int{2, 3, 4}},
	} {
		e, turn := atSix(t)
		l := lists(t, "6 a1 a2 a3")
		expectRunWith(t, e, l, turn, func(y api.Listener) {
			if y.Id == x.by {
				old, _ := l.Get(x.kill)
				kill(t, l, x.kill)
				if id := add(t, l, 6, old); id != 4 {
					t.Errorf("%s: Add tells %d", x.what, id)
				}
			}
		}, x.want...)
		expectRun(t, e, l, turn, x.behind...)
	}
}

// A once listener that adds itself anew is called by the turn behind, not by this one.
func TestAOnceListenerThatAddsItselfAnew(t *testing.T) {
	e, turn := atSix(t)
	l := lists(t, "6 a1o")
	for id := 1; id <= 5; id++ {
		expectRunWith(t, e, l, turn, func(x api.Listener) {
			if again := add(t, l, 6, x); again != id+1 {
				t.Errorf("Add tells %d, not %d", again, id+1)
			}
		}, id)
	}
}

func TestListsThatAreChangedAtAnotherNode(t *testing.T) {
	e := sent(t, way()...)
	l := lists(t, "6 a1 a2 a3", "7 a1 a2", "5 a1")
	turn := api.Turn{At: 1, Phase: api.Bubbling}
	expectRunWith(t, e, l, turn, func(x api.Listener) {
		addText(t, l, 7, "a"+strconv.Itoa(10+x.Id))
		addText(t, l, 9, "a"+strconv.Itoa(10+x.Id))
		kill(t, l, 3+x.Id)
	}, 1, 2, 3)
	expectRun(t, e, l, turn, 1, 2, 3)
	expectRun(t, e, l, api.Turn{At: 2, Phase: api.Bubbling}, 7, 9, 11)
	expectRun(t, e, l, api.Turn{At: 3, Phase: api.AtTarget})
}

// P17.1, P17.3: a turn within a turn

func TestATurnWithinATurnOfTheSameEvent(t *testing.T) {
	e := sent(t, way()...)
	l := lists(t, "6 a1 a2o a3", "5 a1 a2p")
	outer, within := api.Turn{At: 1, Phase: api.Bubbling}, api.Turn{At: 3, Phase: api.AtTarget}
	var got []string
	n := Run(e, l, outer, func(x api.Listener) {
		got = append(got, fmt.Sprint(x.Id, ": ", notes(e)))
		if x.Id != 2 {
			return
		}
		m := Run(e, l, within, func(y api.Listener) {
			got = append(got, fmt.Sprint(y.Id, ": ", notes(e), ", passive ", e.Flags.Passive))
		})
		if m != 2 {
			t.Error("within: Run =", m)
		}
	})
	// What the turn within told stays told, since only the beginning of a turn tells.
	want := []string{
		"1: phase 3, target 2, related 8, current 6",
		"2: phase 3, target 2, related 8, current 6",
		"4: phase 2, target 4, related 0, current 5, passive false",
		"5: phase 2, target 4, related 0, current 5, passive true",
		"3: phase 2, target 4, related 0, current 5",
	}
	if n != 3 || !slices.Equal(got, want) {
		t.Errorf("Run = %d, %q", n, got)
	}
	expectRemoved(t, l, 2)
}

func TestTheSameTurnWithinItself(t *testing.T) {
	e, turn := atSix(t)
	l := lists(t, "6 a1 a2o a3")
	var got []int
	depth := 0
	var call func(x api.Listener)
	call = func(x api.Listener) {
		got = append(got, depth*10+x.Id)
		if depth < 2 && x.Id == 1 {
			depth++
			Run(e, l, turn, call)
			depth--
		}
	}
	n := Run(e, l, turn, call)
	// The once listener is called by the innermost turn, and was removed then for the others.
	if want := []int{1, 11, 21, 22, 23, 13, 3}; n != 2 || !slices.Equal(got, want) {
		t.Errorf("Run = %d, %v, not %v", n, got, want)
	}
}

// A once listener that runs the turn anew isn't called again.
func TestAOnceListenerThatRunsTheTurnAnew(t *testing.T) {
	e, turn := atSix(t)
	l := lists(t, "6 a1o a2")
	var got []int
	var call func(x api.Listener)
	call = func(x api.Listener) {
		got = append(got, x.Id)
		if x.Id == 1 {
			Run(e, l, turn, call)
		}
	}
	n := Run(e, l, turn, call)
	if n != 2 || !slices.Equal(got, []int{1, 2, 2}) {
		t.Errorf("Run = %d, %v", n, got)
	}
}

func TestATurnOfAnotherEventWithinATurn(t *testing.T) {
	e, turn := atSix(t)
	other := sent(t, api.Step{Node: 6, Target: 6}, api.Step{Node: 7, Related: 5})
	other.Type = "b"
	l := lists(t, "6 a1 b1o a2p", "7 b1 a1")
	var got []string
	n := Run(e, l, turn, func(x api.Listener) {
		within := 0
		for at := range 3 {
			within += Run(other, l, api.Turn{At: at, Phase: api.Bubbling}, func(y api.Listener) {
				got = append(got, fmt.Sprint(y.Id, ": ", notes(other)))
				if e.Flags.Passive != x.Passive || other.Flags.Passive {
					t.Errorf("listener %d within %d: passive %v, %v", y.Id, x.Id, e.Flags.Passive, other.Flags.Passive)
				}
				other.StopNow()
				other.Flags.Stop = false
			})
		}
		got = append(got, fmt.Sprint(x.Id, ": ", notes(e), ", within ", within))
		// The first listener of the turn behind is called, since the flag is looked at behind it.
		other.Flags.StopNow = false
	})
	want := []string{
		"2: phase 3, target 6, related 0, current 6",
		"4: phase 3, target 6, related 5, current 7",
		"1: phase 2, target 6, related 0, current 6, within 2",
		"4: phase 3, target 6, related 5, current 7",
		"3: phase 2, target 6, related 0, current 6, within 1",
	}
	if n != 2 || !slices.Equal(got, want) {
		t.Errorf("Run = %d, %q", n, got)
	}
	if e.Flags.Stop || e.Flags.StopNow {
		t.Errorf("%+v", e.Flags)
	}
}

// The turn within sees what was added by then, the one around it doesn't.
func TestAddedAndCalledByATurnWithin(t *testing.T) {
	e, turn := atSix(t)
	l := lists(t, "6 a1 a2")
	expectRunWith(t, e, l, turn, func(x api.Listener) {
		if x.Id == 1 {
			addText(t, l, 6, "a3o")
			addText(t, l, 6, "a4")
			expectRun(t, e, l, turn, 1, 2, 3, 4)
		}
	}, 1, 2)
	expectRun(t, e, l, turn, 1, 2, 4)
}

func TestStopNowByATurnWithin(t *testing.T) {
	e, turn := atSix(t)
	l := lists(t, "6 a1 a2 a3")
	expectRunWith(t, e, l, turn, func(x api.Listener) {
		if x.Id == 2 {
			expectRunWith(t, e, l, turn, func(api.Listener) { e.StopNow() }, 1)
		}
	}, 1, 2)
}

// An event that is changed while it is told

func TestTheTypeIsAskedAtEachListener(t *testing.T) {
	e, turn := atSix(t)
	l := lists(t, "6 a1 b1 a2 b2 a3")
	expectRunWith(t, e, l, turn, func(x api.Listener) {
		if x.Id == 1 {
			e.Type = "b"
		}
		if x.Id == 4 {
			e.Type = "a"
		}
	}, 1, 2, 4, 5)
}

// The way of the turn, and its node, are those with which it was begun.
func TestAPathThatIsChangedWithinATurn(t *testing.T) {
	for _, x := range []struct {
		what   string
		change func(e *event.Event)
	}{
		{"gone", func(e *event.Event) { e.Path = nil }},
		{"ended", (*event.Event).End},
		{"another one", func(e *event.Event) { e.Path = []api.Step{{Node: 8}, {Node: 7, Target: 7}} }},
		{"written over", func(e *event.Event) { clear(e.Path) }},
	} {
		e := sent(t, way()...)
		l := lists(t, "6 a1 a2p a3o", "7 a3o a4", "8 a3o a5", "75 a3o")
		expectRunWith(t, e, l, api.Turn{At: 1, Phase: api.Bubbling}, func(y api.Listener) {
			if y.Id == 1 {
				x.change(e)
				e.Current, e.Phase, e.Target, e.Related = 75, 76, 77, 78
			}
			if got := notes(e); y.Id != 1 && (got != "phase 76, target 77, related 78, current 75" || e.Flags.Passive != y.Passive) {
				t.Errorf("%s, listener %d: %s, passive %v", x.what, y.Id, got, e.Flags.Passive)
			}
		}, 1, 2, 3)
		expectRemoved(t, l, 3)
	}
}

// Memory

func TestThePathStaysAsItIs(t *testing.T) {
	for at := -1; at <= len(way()); at++ {
		for _, capture := range []bool{false, true} {
			p := way()
			e := sent(t, p...)
			l := lists(t, "2 a1 a1c", "3 a1", "4 a1c", "5 a1o", "6 a1p a2", "7 a1")
			turn := api.Turn{At: at, Phase: api.Bubbling, Capture: capture}
			Would(e, l, turn)
			Run(e, l, turn, nil)
			Run(e, l, turn, func(api.Listener) {})
			if !slices.Equal(p, way()) || !slices.Equal(e.Path, way()) || &p[0] != &e.Path[0] {
				t.Errorf("at %d: %v, %v", at, p, e.Path)
			}
		}
	}
}

func TestListsShareNoMemory(t *testing.T) {
	e, turn := atSix(t)
	l := lists(t, "6 a1 a2o a3 a4")
	first, second := Would(e, l, turn), Would(e, l, turn)
	scribble(first)
	if !slices.Equal(second, []int{1, 2, 3, 4}) {
		t.Error("another answer is", second)
	}
	expectRun(t, e, l, turn, 1, 2, 3, 4)
	scribble(second)
	expectRun(t, e, l, turn, 1, 3, 4)
}

// scribble writes over a list, also behind its length.
func scribble(l []int) {
	l = l[:cap(l)]
	for i := range l {
		l[i] = -77
	}
}

func TestTheSameIsToldAgain(t *testing.T) {
	for _, x := range callings {
		for range 3 {
			for _, capture := range []bool{false, true} {
				want := x.bubbling
				if capture {
					want = x.capturing
				}
				e, _ := atSix(t)
				expectRun(t, e, lists(t, x.lists...), api.Turn{Phase: api.AtTarget, Capture: capture}, want...)
			}
		}
	}
}

// Full lists

func TestFullLists(t *testing.T) {
	e, turn := atSix(t)
	l := listen.New()
	var all, stay []int
	for i := range api.MaxListens {
		id := add(t, l, 6, api.Listener{Type: "a", Callback: 1 + i, Options: api.Options{Once: i%3 == 0, Passive: i%2 == 0}})
		all = append(all, id)
		if i%3 != 0 {
			stay = append(stay, id)
		}
	}
	expectRun(t, e, l, turn, all...)
	expectRun(t, e, l, turn, stay...)
}

// Helpers

// gather runs a turn, and tells the numbers of the listeners that were called.
func gather(e *event.Event, l *listen.Lists, turn api.Turn, do func(x api.Listener)) (ids []int, n int) {
	n = Run(e, l, turn, func(x api.Listener) {
		ids = append(ids, x.Id)
		do(x)
	})
	return ids, n
}

// expectRunWith looks whether a turn calls these listeners while they do something.
func expectRunWith(t *testing.T, e *event.Event, l *listen.Lists, turn api.Turn, do func(x api.Listener), want ...int) {
	t.Helper()
	ids, n := gather(e, l, turn, do)
	if n != len(want) || !slices.Equal(ids, want) {
		t.Errorf("Run at %+v = %d, %v, not %v", turn, n, ids, want)
	}
}

// expectRun looks whether a turn calls these listeners, and Would tells them, ahead of it.
func expectRun(t *testing.T, e *event.Event, l *listen.Lists, turn api.Turn, want ...int) {
	t.Helper()
	expectWould(t, e, l, turn, want...)
	expectRunWith(t, e, l, turn, func(api.Listener) {}, want...)
}

func expectWould(t *testing.T, e *event.Event, l *listen.Lists, turn api.Turn, want ...int) {
	t.Helper()
	if got := Would(e, l, turn); !slices.Equal(got, want) {
		t.Errorf("Would at %+v = %v, not %v", turn, got, want)
	}
}

// expectNothing looks whether nothing is done, and nobody called.
func expectNothing(t *testing.T, e *event.Event, l *listen.Lists, turn api.Turn) {
	t.Helper()
	var want event.Event
	if e != nil {
		want = *e
		want.Path = slices.Clone(e.Path)
	}
	listeners := listenersOf(l)
	expectRun(t, e, l, turn)
	if n := Run(e, l, turn, nil); n != 0 {
		t.Errorf("Run at %+v, without a call = %d", turn, n)
	}
	if e != nil {
		expectEvent(t, e, want)
	}
	if !slices.Equal(listenersOf(l), listeners) {
		t.Errorf("the lists are %v", listenersOf(l))
	}
}

// expectEvent looks at all that an event has.
func expectEvent(t *testing.T, e *event.Event, want event.Event) {
	t.Helper()
	if notes(e) != notes(&want) || e.Type != want.Type || e.Flags != want.Flags || !slices.Equal(e.Path, want.Path) {
		t.Fatalf("the event is %+v, not %+v", *e, want)
	}
}

// listenersOf tells all listeners that were added.
func listenersOf(l *listen.Lists) []api.Listener {
	var all []api.Listener
	for id := 1; id <= l.Len(); id++ {
		x, _ := l.Get(id)
		all = append(all, x)
	}
	return all
}

// expectRemoved looks whether these listeners were removed, and no others.
func expectRemoved(t *testing.T, l *listen.Lists, want ...int) {
	t.Helper()
	var got []int
	for _, x := range listenersOf(l) {
		if x.Removed {
			got = append(got, x.Id)
		}
	}
	if !slices.Equal(got, want) {
		t.Errorf("removed are %v, not %v", got, want)
	}
}
