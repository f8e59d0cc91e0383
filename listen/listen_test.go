package listen

import (
	"math"
	"slices"
	"strings"
	"testing"

	"towncrier/api"
)

const ok = api.OK

// strays are numbers that no listener has.
var strays = []int{0, -1, -2, -511, -512, -513, 513, 514, 1024, 1 << 31, 1 << 32, 1<<32 + 1, math.MaxInt, math.MinInt, math.MinInt + 1}

// wrongTypes are no words.
var wrongTypes = []string{
	"", " ", "-", "A", "aB", "Click", "a b", " a", "a ", "a\n", "a\x00", "\x00", "a-b", "a_b", "a.b", "#", "é", "aé", "\xff", "a\xff", "ａ", "٣", "`", "{", "/", ":", "@", "[",
	"abcdefghi", "123456789", "aaaaaaaa ", " aaaaaaaa", strings.Repeat("a", 1<<16),
}

// A record is a listener that was added at a node.
type record struct {
	node     int
	typ      string
	callback int
	api.Options
	removed bool
}

func (r record) handed() api.Listener {
	return api.Listener{Type: r.typ, Callback: r.callback, Options: r.Options}
}

// A book has all records of some lists: that of the listener with the number 1 stands at the place 0.
type book []record

// parish is what most tests look at.
var parish = book{
	{1, "a", 1, api.Options{}, false},
	{2, "a", 1, api.Options{Once: true}, false},
	{1, "b", 1, api.Options{Signal: 3}, false},
	{1, "a", 2, api.Options{}, true},
	{1, "a", 1, api.Options{Capture: true, Passive: true}, false},
	{7, "c", 4, api.Options{Capture: true}, true},
	{2, "a", 9, api.Options{}, false},
	{1, "a", 2, api.Options{Once: true, Signal: 1}, false},
	{9, "click", 5, api.Options{Capture: true, Once: true, Passive: true, Signal: 64}, false},
	{math.MaxInt, "a", 1, api.Options{}, false},
}

// build gives lists as the book has them.
func (b book) build(t *testing.T) *Lists {
	t.Helper()
	l := New()
	b.fill(t, l)
	return l
}

func (b book) fill(t *testing.T, l *Lists) {
	t.Helper()
	for i, r := range b {
		expectAdd(t, l, i+1, ok, r.node, r.handed())
		// At once, since one behind it may be alike.
		if r.removed {
			expectKill(t, l, i+1)
		}
	}
}

// with gives the book with some more records.
func (b book) with(more ...record) book { return slices.Concat(b, more) }

// without gives the book with some listeners removed.
func (b book) without(ids ...int) book {
	b = slices.Clone(b)
	for _, id := range ids {
		b[id-1].removed = true
	}
	return b
}

// full gives the book with as many records as there may be.
func (b book) full() book {
	for len(b) < api.MaxListens {
		b = b.with(record{node: 1 + len(b)%5, typ: "full", callback: 1 + len(b)})
	}
	return b
}

func (b book) listener(id int) api.Listener {
	x := b[id-1].handed()
	x.Id, x.Removed = id, b[id-1].removed
	return x
}

func (b book) at(node int) []api.Listener {
	var at []api.Listener
	for i, r := range b {
		if r.node == node && !r.removed {
			at = append(at, b.listener(i+1))
		}
	}
	return at
}

// find tells the number of the listener of r's node that is alike.
func (b book) find(r record) int {
	return 1 + slices.IndexFunc(b, func(o record) bool {
		return o.node == r.node && !o.removed && o.typ == r.typ && o.callback == r.callback && o.Capture == r.Capture
	})
}

// nodes tells the nodes at which one was added, each once.
func (b book) nodes() []int {
	var nodes []int
	for _, r := range b {
		nodes = append(nodes, r.node)
	}
	slices.Sort(nodes)
	return slices.Compact(nodes)
}

func TestTheChaptersExample(t *testing.T) {
	l := New()
	x := api.Listener{Type: "a", Callback: 1}
	expectAdd(t, l, 1, ok, 1, x)
	expectAdd(t, l, 0, ok, 1, x)
	expectBook(t, l, book{{node: 1, typ: "a", callback: 1}})
}

// P12.1: New

func TestNew(t *testing.T) {
	a, b := New(), New()
	if a == nil || b == nil || a == b {
		t.Fatalf("New() = %p, then %p", a, b)
	}
	expectBook(t, a, nil)
	expectBook(t, b, nil)
}

func TestListsAreApart(t *testing.T) {
	a, b := parish.build(t), New()
	expectBook(t, b, nil)
	one := book{{node: 1, typ: "a", callback: 1, Options: api.Options{Once: true}}}
	one.fill(t, b)
	expectBook(t, a, parish)
	expectKill(t, a, 1)
	expectBook(t, b, one)
	expectBook(t, a, parish.without(1))
	expectNoKill(t, b, 2)
	expectBook(t, a, parish.without(1))
}

// P12.1: Add

func TestAddAtOneNode(t *testing.T) {
	l, b := New(), book{}
	for n := range 40 {
		r := record{node: 5, typ: "a", callback: 40 - n}
		expectAdd(t, l, n+1, ok, r.node, r.handed())
		b = b.with(r)
		expectBook(t, l, b)
	}
}

func TestAddAtSeveralNodes(t *testing.T) {
	l, b := New(), book{}
	for n, node := range []int{3, 1, 3, 2, 128, 129, 1, 1, 3, 512, 513, 1 << 40, 2, math.MaxInt, 3} {
		r := record{node: node, typ: "a", callback: n + 1}
		expectAdd(t, l, n+1, ok, node, r.handed())
		b = b.with(r)
		expectBook(t, l, b)
	}
}

// Type, Callback and Options are taken as they are.
func TestWhatAddTakes(t *testing.T) {
	l, b := New(), book{}
	for _, typ := range []string{"a", "z", "0", "9", "az09", "click", "abcdefgh", "00000000", "12345678"} {
		for _, callback := range []int{1, 2, 64, 65, 1000000, 1 << 40, math.MaxInt} {
			for _, signal := range []int{0, 1, 64, 65, 1 << 40, math.MaxInt} {
				n := 1 + len(b)
				r := record{n, typ, callback, api.Options{Capture: n%3 == 0, Once: n%2 == 0, Passive: n%5 == 0, Signal: signal}, false}
				expectAdd(t, l, n, ok, r.node, r.handed())
				b = b.with(r)
			}
		}
	}
	expectBook(t, l, b)
}

func TestAddTakesEachOption(t *testing.T) {
	l, b := New(), book{}
	for bits := range 8 {
		for _, signal := range []int{0, 1, 77} {
			r := record{1, "a", 1 + len(b), api.Options{Capture: bits&1 != 0, Once: bits&2 != 0, Passive: bits&4 != 0, Signal: signal}, false}
			expectAdd(t, l, len(b)+1, ok, r.node, r.handed())
			b = b.with(r)
		}
	}
	expectBook(t, l, b)
}

// The number that is handed in, and whether it was removed, is nothing to Add.
func TestWhatAddDoesNotTake(t *testing.T) {
	l, b := New(), book{}
	for _, id := range append([]int{1, 2, 3, 9, 512}, strays...) {
		for _, removed := range []bool{false, true} {
			r := record{node: 2, typ: "a", callback: 1 + len(b)}
			x := r.handed()
			x.Id, x.Removed = id, removed
			expectAdd(t, l, len(b)+1, ok, 2, x)
			// One that is alike isn't told apart by these either.
			x.Id, x.Removed = id+1, !removed
			expectAdd(t, l, 0, ok, 2, x)
			b = b.with(r)
			expectBook(t, l, b)
		}
	}
	// What is told of a listener may be handed in again, also of a removed one.
	x, _ := l.Get(1)
	expectAdd(t, l, len(b)+1, ok, 3, x)
	expectKill(t, l, 2)
	x, _ = l.Get(2)
	expectAdd(t, l, len(b)+2, ok, 2, x)
	expectBook(t, l, b.without(2).with(record{node: 3, typ: "a", callback: 1}, record{node: 2, typ: "a", callback: 2}))
}

// A wrong is what Add refuses, by one thing or by several.
type wrong struct {
	node int
	x    api.Listener
}

func wrongs() []wrong {
	right := api.Listener{Type: "a", Callback: 1}
	var all []wrong
	for _, n := range []int{0, -1, -2, -128, -1 << 40, math.MinInt, math.MinInt + 1} {
		all = append(all, wrong{n, right})
		x := right
		x.Callback = n
		all = append(all, wrong{1, x}, wrong{n, x})
		if n < 0 {
			x = right
			x.Signal = n
			all = append(all, wrong{1, x}, wrong{n, x})
		}
	}
	for _, typ := range wrongTypes {
		x := right
		x.Type = typ
		all = append(all, wrong{1, x}, wrong{77, x})
		x.Options = api.Options{Capture: true, Once: true, Passive: true, Signal: 1}
		all = append(all, wrong{2, x}, wrong{0, x})
	}
	all = append(all, wrong{}, wrong{1, api.Listener{}}, wrong{0, api.Listener{Id: 1, Removed: true}})
	return all
}

func TestAddOfWhatIsWrong(t *testing.T) {
	for _, b := range []book{nil, parish, parish[:1], parish.without(1, 2), parish.full()} {
		l := b.build(t)
		for _, w := range wrongs() {
			expectAdd(t, l, 0, api.ErrArg, w.node, w.x)
			if l.Len() != len(b) {
				t.Fatalf("Add(%d, %+v): Len() = %d", w.node, w.x, l.Len())
			}
		}
		expectBook(t, l, b)
		if len(b) < api.MaxListens {
			r := record{node: 1, typ: "next", callback: 1}
			expectAdd(t, l, len(b)+1, ok, r.node, r.handed())
			expectBook(t, l, b.with(r))
		}
	}
}

func TestTheLeastAndTheGreatestThatAreRight(t *testing.T) {
	for _, r := range []record{
		{node: 1, typ: "a", callback: 1},
		{node: math.MaxInt, typ: "a", callback: 1},
		{node: 1, typ: "a", callback: math.MaxInt},
		{node: 1, typ: "a", callback: 1, Options: api.Options{Signal: 1}},
		{node: 1, typ: "a", callback: 1, Options: api.Options{Signal: math.MaxInt}},
		{node: 1, typ: "abcdefgh", callback: 1},
		{node: 1, typ: "0", callback: 1},
	} {
		expectBook(t, book{r}.build(t), book{r})
	}
}

// P12.1: alike

func TestAlike(t *testing.T) {
	first := record{node: 4, typ: "a", callback: 2, Options: api.Options{Once: true, Signal: 5}}
	for _, x := range []struct {
		what   string
		change func(r *record)
		alike  bool
	}{
		{"the same", func(r *record) {}, true},
		{"another Once", func(r *record) { r.Once = false }, true},
		{"another Passive", func(r *record) { r.Passive = true }, true},
		{"no Signal", func(r *record) { r.Signal = 0 }, true},
		{"another Signal", func(r *record) { r.Signal = 6 }, true},
		{"all other Options", func(r *record) { r.Once, r.Passive, r.Signal = false, true, 0 }, true},
		{"another Capture", func(r *record) { r.Capture = true }, false},
		{"another Callback", func(r *record) { r.callback = 3 }, false},
		{"a Callback that is the same in its lower half", func(r *record) { r.callback += 1 << 32 }, false},
		{"another Type", func(r *record) { r.typ = "b" }, false},
		{"a Type that begins with it", func(r *record) { r.typ = "aa" }, false},
		{"another node", func(r *record) { r.node = 5 }, false},
		{"a node that is the same in its lower half", func(r *record) { r.node += 1 << 32 }, false},
		{"all else", func(r *record) { r.Capture, r.callback, r.typ = true, 9, "z" }, false},
	} {
		t.Run(x.what, func(t *testing.T) {
			second := first
			x.change(&second)
			// Both ways round, since it is the same of both.
			expectAlike(t, first, second, x.alike)
			expectAlike(t, second, first, x.alike)
		})
	}
}

func expectAlike(t *testing.T, a, b record, alike bool) {
	t.Helper()
	between := record{node: a.node, typ: "other", callback: 99}
	all := book{between, a, {node: 99, typ: "a", callback: 2}}
	l := all.build(t)
	if alike {
		expectAdd(t, l, 0, ok, b.node, b.handed())
		expectAdd(t, l, 0, ok, b.node, b.handed())
	} else {
		expectAdd(t, l, 4, ok, b.node, b.handed())
		expectAdd(t, l, 0, ok, b.node, b.handed())
		all = all.with(b)
	}
	expectBook(t, l, all)
}

// One that isn't added takes no number, and the one that is alike keeps its place and its Options.
func TestAddOfOneThatIsAlikeChangesNothing(t *testing.T) {
	l := parish.build(t)
	for range 3 {
		for _, r := range parish {
			if r.removed {
				continue
			}
			x := r.handed()
			x.Once, x.Passive, x.Signal = !x.Once, !x.Passive, x.Signal+1
			expectAdd(t, l, 0, ok, r.node, x)
			expectAdd(t, l, 0, ok, r.node, r.handed())
		}
		expectBook(t, l, parish)
	}
	r := record{node: 2, typ: "b", callback: 1}
	expectAdd(t, l, len(parish)+1, ok, r.node, r.handed())
	expectBook(t, l, parish.with(r))
}

func TestAddOfOneThatIsAlikeToARemovedOne(t *testing.T) {
	l, b := parish.build(t), parish
	// 1 is the first of its list, 3 stands between, 8 is the last; 9 and 10 are alone. Those that come again stand behind by then.
	for _, id := range []int{1, 3, 8, 9, 10, 1, 3, 9} {
		r := b[id-1]
		now := b.find(r)
		expectKill(t, l, now)
		b = b.without(now)
		r.removed, r.Passive = false, !r.Passive
		expectAdd(t, l, len(b)+1, ok, r.node, r.handed())
		b = b.with(r)
		expectBook(t, l, b)
		expectAdd(t, l, 0, ok, r.node, r.handed())
		expectBook(t, l, b)
	}
}

// P12.1: how many

func TestTheLastListenerAndTheOneBehindIt(t *testing.T) {
	all := parish.full()
	l := all[:511].build(t)
	expectLen(t, l, 511)
	last := all[511]
	expectAdd(t, l, 0, ok, 1, parish[0].handed())
	expectAdd(t, l, 512, ok, last.node, last.handed())
	for range 3 {
		// New ones, at nodes with and without listeners; one alike to a removed one; those that are there already.
		expectAdd(t, l, 0, api.ErrFull, 1, api.Listener{Type: "new", Callback: 1})
		expectAdd(t, l, 0, api.ErrFull, 333, api.Listener{Type: "new", Callback: 1})
		expectAdd(t, l, 0, api.ErrFull, 7, parish[5].handed())
		for _, r := range all {
			expectAdd(t, l, 0, api.ErrFull, r.node, r.handed())
		}
		for _, w := range wrongs() {
			expectAdd(t, l, 0, api.ErrArg, w.node, w.x)
		}
		expectLen(t, l, 512)
	}
	expectBook(t, l, all)
}

func TestFullAtOneNodeAndAtOneEach(t *testing.T) {
	for _, step := range []int{0, 1} {
		var b book
		for n := range api.MaxListens {
			b = b.with(record{node: 1 + step*n, typ: "a", callback: 1 + (1-step)*n})
		}
		l := b.build(t)
		expectAdd(t, l, 0, api.ErrFull, 600, api.Listener{Type: "a", Callback: 1})
		expectBook(t, l, b)
	}
}

// The ones that were removed count, too.
func TestRemovedListenersTakeUpNumbers(t *testing.T) {
	l := New()
	var b book
	for n := range api.MaxListens {
		r := record{node: 1 + n%2, typ: "a", callback: 1}
		expectAdd(t, l, n+1, ok, r.node, r.handed())
		expectLen(t, l, n+1)
		expectKill(t, l, n+1)
		expectLen(t, l, n+1)
		r.removed = true
		b = b.with(r)
	}
	expectAdd(t, l, 0, api.ErrFull, 1, api.Listener{Type: "a", Callback: 1})
	expectAdd(t, l, 0, api.ErrArg, 0, api.Listener{Type: "a", Callback: 1})
	expectBook(t, l, b)
}

func TestFullListsWithoutSomeStayFull(t *testing.T) {
	b := parish.full()
	l := b.build(t)
	for _, id := range []int{1, 512, 256, 511, 2} {
		expectKill(t, l, id)
		b = b.without(id)
		expectAdd(t, l, 0, api.ErrFull, b[id-1].node, b[id-1].handed())
		expectAdd(t, l, 0, api.ErrFull, 600, api.Listener{Type: "new", Callback: 1})
	}
	expectBook(t, l, b)
}

// P12.2: Find

func TestFind(t *testing.T) {
	l := parish.build(t)
	for _, x := range []struct {
		what     string
		node     int
		typ      string
		callback int
		capture  bool
		want     int
	}{
		{"the first one", 1, "a", 1, false, 1},
		{"one that captures", 1, "a", 1, true, 5},
		{"one between", 1, "b", 1, false, 3},
		{"the last one", 1, "a", 2, false, 8},
		{"one at another node", 2, "a", 1, false, 2},
		{"the second one at another node", 2, "a", 9, false, 7},
		{"one alone", 9, "click", 5, true, 9},
		{"at the greatest node", math.MaxInt, "a", 1, false, 10},
		{"another type", 1, "c", 1, false, 0},
		{"another type's beginning", 9, "clic", 5, true, 0},
		{"a longer type", 9, "clicks", 5, true, 0},
		{"great letters", 9, "CLICK", 5, true, 0},
		{"another callback", 1, "a", 3, false, 0},
		{"a callback at another node", 1, "a", 9, false, 0},
		{"not capturing, and it does", 9, "click", 5, false, 0},
		{"capturing, and it doesn't", 1, "b", 1, true, 0},
		{"capturing, and the removed one didn't", 1, "a", 2, true, 0},
		{"one that was removed", 7, "c", 4, true, 0},
		{"a node without listeners", 3, "a", 1, false, 0},
		{"no type", 1, "", 1, false, 0},
		{"callback 0", 1, "a", 0, false, 0},
		{"callback below 0", 1, "a", -1, false, 0},
		{"all of nothing", 0, "", 0, false, 0},
	} {
		for range 2 {
			if id := l.Find(x.node, x.typ, x.callback, x.capture); id != x.want {
				t.Errorf("%s: Find(%d, %q, %d, %v) = %d, not %d", x.what, x.node, x.typ, x.callback, x.capture, id, x.want)
			}
		}
	}
	for _, typ := range wrongTypes {
		expectFind(t, l, 0, 1, typ, 1, false)
	}
	for _, n := range strays {
		if n != math.MaxInt {
			expectFind(t, l, 0, n, "a", 1, false)
		}
		expectFind(t, l, 0, 1, "a", n, false)
	}
	expectBook(t, l, parish)
}

// The one that is alike now, not the one that was.
func TestFindOfOneThatWasRemovedAndAddedAgain(t *testing.T) {
	l := New()
	x := api.Listener{Type: "a", Callback: 1}
	for id := 1; id <= 20; id++ {
		expectFind(t, l, 0, 1, "a", 1, false)
		expectAdd(t, l, id, ok, 1, x)
		expectFind(t, l, id, 1, "a", 1, false)
		expectKill(t, l, id)
	}
	expectFind(t, l, 0, 1, "a", 1, false)
}

// P12.2: Kill

// Which one of how many leaves, of lists of each length, is all the same.
func TestKill(t *testing.T) {
	for length := 1; length <= 6; length++ {
		for place := range length {
			var b book
			for n := range length {
				b = b.with(record{node: 3, typ: "a", callback: 1 + n}, record{node: 8, typ: "a", callback: 1 + n})
			}
			for _, id := range []int{2*place + 1, 2*place + 2} {
				l := b.build(t)
				expectKill(t, l, id)
				expectBook(t, l, b.without(id))
				expectNoKill(t, l, id)
				expectBook(t, l, b.without(id))
			}
		}
	}
}

func TestKillOfAllInAnyOrder(t *testing.T) {
	for _, ids := range [][]int{
		{1, 2, 3, 4, 5}, {5, 4, 3, 2, 1}, {3, 1, 5, 2, 4}, {2, 4, 1, 3, 5}, {5, 1, 4, 2, 3}, {3, 4, 2, 5, 1},
	} {
		b := book{{node: 6, typ: "a", callback: 5}, {node: 6, typ: "b", callback: 4}, {node: 6, typ: "a", callback: 4}, {node: 6, typ: "a", callback: 5, Options: api.Options{Capture: true}}, {node: 2, typ: "a", callback: 5}}
		l := b.build(t)
		for _, id := range ids {
			expectKill(t, l, id)
			b = b.without(id)
			expectBook(t, l, b)
		}
		// A node whose list was empty has one again.
		r := record{node: 6, typ: "a", callback: 5}
		expectAdd(t, l, 6, ok, r.node, r.handed())
		expectBook(t, l, b.with(r))
	}
}

func TestKillOfWhatIsNotThere(t *testing.T) {
	for _, b := range []book{nil, parish, parish.without(1, 2, 3, 5, 7, 8, 9, 10), parish.full()} {
		l := b.build(t)
		for _, id := range append([]int{len(b) + 1, len(b) + 2, -len(b)}, strays...) {
			expectNoKill(t, l, id)
		}
		for i, r := range b {
			if r.removed {
				expectNoKill(t, l, i+1)
			}
		}
		expectBook(t, l, b)
		// What wasn't there isn't removed when it is added.
		if len(b) < api.MaxListens {
			r := record{node: 1, typ: "next", callback: 1}
			expectAdd(t, l, len(b)+1, ok, r.node, r.handed())
			expectBook(t, l, b.with(r))
		}
	}
}

// What is removed stays so, also if one that is alike was added behind it, and is removed.
func TestKillAgain(t *testing.T) {
	l := New()
	r := record{node: 1, typ: "a", callback: 1}
	expectAdd(t, l, 1, ok, 1, r.handed())
	expectKill(t, l, 1)
	expectAdd(t, l, 2, ok, 1, r.handed())
	b := book{r, r}.without(1)
	expectNoKill(t, l, 1)
	expectBook(t, l, b)
	expectKill(t, l, 2)
	expectNoKill(t, l, 1)
	expectNoKill(t, l, 2)
	expectBook(t, l, b.without(2))
}

// Ways: a list that is empty isn't in the map any more.
func TestEmptyListsAreDeleted(t *testing.T) {
	l := New()
	for n := range 100 {
		expectAdd(t, l, n+1, ok, n+1, api.Listener{Type: "a", Callback: 1})
	}
	for n := range 100 {
		if len(l.byNode) != 100-n {
			t.Fatalf("%d lists stand in the map, not %d", len(l.byNode), 100-n)
		}
		expectKill(t, l, n+1)
	}
	if len(l.byNode) != 0 {
		t.Fatalf("%d lists stand in the map", len(l.byNode))
	}
}

// Asking leaves no list behind.
func TestAskingChangesNothing(t *testing.T) {
	l := parish.build(t)
	for node := -3; node < 300; node++ {
		l.At(node)
		l.Find(node, "a", 77, false)
		l.Get(node)
		l.Where(node)
		l.Len()
	}
	expectBook(t, l, parish)
}

// P12.2: At, Get, Where, Len

func TestAt(t *testing.T) {
	l := parish.build(t)
	for node, ids := range map[int][]int{1: {1, 3, 5, 8}, 2: {2, 7}, 3: nil, 7: nil, 9: {9}, math.MaxInt: {10}, 0: nil, -1: nil, 10: nil, math.MinInt: nil} {
		var want []api.Listener
		for _, id := range ids {
			want = append(want, parish.listener(id))
		}
		expectAt(t, l, node, want)
	}
}

func TestGetAndWhere(t *testing.T) {
	l := parish.build(t)
	for id, want := range map[int]struct {
		x    api.Listener
		node int
	}{
		1: {api.Listener{Id: 1, Type: "a", Callback: 1}, 1},
		2: {api.Listener{Id: 2, Type: "a", Callback: 1, Options: api.Options{Once: true}}, 2},
		3: {api.Listener{Id: 3, Type: "b", Callback: 1, Options: api.Options{Signal: 3}}, 1},
		4: {api.Listener{Id: 4, Type: "a", Callback: 2, Removed: true}, 1},
		6: {api.Listener{Id: 6, Type: "c", Callback: 4, Options: api.Options{Capture: true}, Removed: true}, 7},
		9: {api.Listener{Id: 9, Type: "click", Callback: 5, Options: api.Options{Capture: true, Once: true, Passive: true, Signal: 64}}, 9},
		// A removed one that is alike stands ahead of it.
		8:  {api.Listener{Id: 8, Type: "a", Callback: 2, Options: api.Options{Once: true, Signal: 1}}, 1},
		10: {api.Listener{Id: 10, Type: "a", Callback: 1}, math.MaxInt},
	} {
		if x, there := l.Get(id); !there || x != want.x {
			t.Errorf("Get(%d) = %+v, %v, not %+v", id, x, there, want.x)
		}
		if node := l.Where(id); node != want.node {
			t.Errorf("Where(%d) = %d, not %d", id, node, want.node)
		}
	}
	for _, id := range append([]int{11, 12, 512}, strays...) {
		expectNoGet(t, l, id)
	}
}

func TestLen(t *testing.T) {
	l := New()
	expectLen(t, l, 0)
	for n := 1; n <= 5; n++ {
		x := api.Listener{Type: "a", Callback: n}
		expectAdd(t, l, n, ok, 1, x)
		expectLen(t, l, n)
		expectAdd(t, l, 0, ok, 1, x)
		expectAdd(t, l, 0, api.ErrArg, 0, x)
		expectLen(t, l, n)
		expectKill(t, l, n)
		expectLen(t, l, n)
	}
}

// R4: Memory

func TestWhatIsAnsweredMayBeWrittenOver(t *testing.T) {
	l := parish.build(t)
	for _, node := range parish.nodes() {
		scribble(l.At(node))
		expectBook(t, l, parish)
	}
	first, second := l.At(1), l.At(1)
	scribble(first)
	if !slices.Equal(second, parish.at(1)) {
		t.Error("two answers share memory")
	}
	scribble(second)
	x, _ := l.Get(3)
	x.Type, x.Callback, x.Removed, x.Signal = "x", 77, true, 9
	r := record{node: 1, typ: "b", callback: 2}
	expectAdd(t, l, len(parish)+1, ok, r.node, r.handed())
	b := parish.with(r)
	expectBook(t, l, b)
	// What was answered doesn't change by what is done then.
	kept := l.At(1)
	copied := slices.Clone(kept)
	expectKill(t, l, 1)
	expectKill(t, l, 8)
	expectAdd(t, l, len(b)+1, ok, 1, parish[0].handed())
	if !slices.Equal(kept, copied) {
		t.Errorf("At(1) became %+v", kept)
	}
	expectBook(t, l, b.without(1, 8).with(parish[0]))
}

// The memory behind an answer is nobody else's.
func TestAnswersOfEachLength(t *testing.T) {
	l, b := New(), book{}
	for n := range 40 {
		r := record{node: 1, typ: "a", callback: 1 + n}
		scribble(l.At(1))
		expectAdd(t, l, n+1, ok, 1, r.handed())
		b = b.with(r)
		expectBook(t, l, b)
	}
	for id := 2; id <= 40; id += 3 {
		scribble(l.At(1))
		expectKill(t, l, id)
		b = b.without(id)
		expectBook(t, l, b)
	}
}

// scribble writes over a list, and over the memory behind it.
func scribble(l []api.Listener) {
	l = l[:cap(l)]
	for i := range l {
		l[i] = api.Listener{Id: 1000 + i, Type: "scribble", Callback: -1, Options: api.Options{Signal: 5}, Removed: true}
	}
}

// Nil and zero lists

func TestNilLists(t *testing.T) {
	var l *Lists
	for range 3 {
		expectAdd(t, l, 0, api.ErrArg, 1, api.Listener{Type: "a", Callback: 1})
		for _, w := range wrongs() {
			expectAdd(t, l, 0, api.ErrArg, w.node, w.x)
		}
		for _, n := range append([]int{1, 2, 512}, strays...) {
			expectNoKill(t, l, n)
			expectNoGet(t, l, n)
			expectFind(t, l, 0, n, "a", 1, false)
			expectFind(t, l, 0, 1, "", n, true)
			expectAt(t, l, n, nil)
		}
		expectLen(t, l, 0)
	}
}

func TestZeroLists(t *testing.T) {
	var zero Lists
	var held struct {
		other int
		lists Lists
	}
	for _, l := range []*Lists{&zero, {}, &held.lists, new(Lists)} {
		expectBook(t, l, nil)
		for _, id := range append([]int{1, 2}, strays...) {
			expectNoKill(t, l, id)
		}
		for _, w := range wrongs() {
			expectAdd(t, l, 0, api.ErrArg, w.node, w.x)
		}
		expectBook(t, l, nil)
		all := parish.full()
		all.fill(t, l)
		expectAdd(t, l, 0, api.ErrFull, 1, api.Listener{Type: "new", Callback: 1})
		expectBook(t, l, all)
	}
}

func expectAdd(t *testing.T, l *Lists, want int, wantError api.Errno, node int, x api.Listener) {
	t.Helper()
	if id, e := l.Add(node, x); id != want || e != wantError {
		t.Fatalf("Add(%d, %+v) = %d, %v, not %d, %v", node, short(x), id, e, want, wantError)
	}
}

func expectFind(t *testing.T, l *Lists, want, node int, typ string, callback int, capture bool) {
	t.Helper()
	if id := l.Find(node, typ, callback, capture); id != want {
		t.Fatalf("Find(%d, %.20q, %d, %v) = %d, not %d", node, typ, callback, capture, id, want)
	}
}

func expectKill(t *testing.T, l *Lists, id int) {
	t.Helper()
	if !l.Kill(id) {
		t.Fatalf("Kill(%d) is false", id)
	}
}

func expectNoKill(t *testing.T, l *Lists, id int) {
	t.Helper()
	if l.Kill(id) {
		t.Fatalf("Kill(%d) is true", id)
	}
}

func expectNoGet(t *testing.T, l *Lists, id int) {
	t.Helper()
	if x, there := l.Get(id); there || x != (api.Listener{}) {
		t.Fatalf("Get(%d) = %+v, %v, and it isn't there", id, x, there)
	}
	if node := l.Where(id); node != 0 {
		t.Fatalf("Where(%d) = %d, and it isn't there", id, node)
	}
}

func expectLen(t *testing.T, l *Lists, want int) {
	t.Helper()
	if n := l.Len(); n != want {
		t.Fatalf("Len() = %d, not %d", n, want)
	}
}

// expectBook looks at all that the lists tell.
func expectBook(t *testing.T, l *Lists, b book) {
	t.Helper()
	expectLen(t, l, len(b))
	for i, r := range b {
		want := b.listener(i + 1)
		if x, there := l.Get(i + 1); !there || x != want {
			t.Fatalf("Get(%d) = %+v, %v, not %+v", i+1, x, there, want)
		}
		if node := l.Where(i + 1); node != r.node {
			t.Fatalf("Where(%d) = %d, not %d", i+1, node, r.node)
		}
	}
	for _, id := range append([]int{len(b) + 1, len(b) + 2, -len(b)}, strays...) {
		expectNoGet(t, l, id)
	}
	expectNodes(t, l, b)
}

func expectNodes(t *testing.T, l *Lists, b book) {
	t.Helper()
	lists := 0
	for _, node := range b.nodes() {
		at := b.at(node)
		expectAt(t, l, node, at)
		if len(at) > 0 {
			lists++
		}
	}
	if len(l.byNode) != lists {
		t.Fatalf("%d lists stand in the map, and %d nodes have listeners", len(l.byNode), lists)
	}
	for _, node := range []int{0, -1, 4, 77, 600, math.MinInt} {
		expectAt(t, l, node, b.at(node))
	}
	for _, r := range b {
		expectFind(t, l, b.find(r), r.node, r.typ, r.callback, r.Capture)
	}
}

func expectAt(t *testing.T, l *Lists, node int, want []api.Listener) {
	t.Helper()
	if at := l.At(node); !slices.Equal(at, want) {
		t.Fatalf("At(%d) = %+v, not %+v", node, at, want)
	}
}

// short keeps a message readable.
func short(x api.Listener) api.Listener {
	x.Type = x.Type[:min(len(x.Type), 20)]
	return x
}
