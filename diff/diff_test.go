package diff_test

import (
	"fmt"
	"math"
	"slices"
	"testing"

	"pigeonhole/addr"
	"pigeonhole/api"
	"pigeonhole/diff"
	"pigeonhole/entry"
	"pigeonhole/merge"
	"pigeonhole/prefix"
	"pigeonhole/rib"
	"pigeonhole/word"
)

const ones = math.MaxUint64

// shapes are entries without an action, of which no two are alike, in the order
// of a sorted list: the longest first, then by Value, then by Mask. Most of them
// differ from the next one in few bits; some are not valid.
var shapes = []entry.Entry{
	{Len: math.MaxInt},
	{Len: math.MaxInt - 1},
	{Len: 1<<32 + 16},
	{Len: 129},
	shape(ones, ones-1, ones, ones, 128),
	shape(ones, ones, ones, ones, 128),
	shape(0, 1, 0, 0, 16),
	shape(0, 1, 0, 1, 16),
	shape(0, 2, 0, 3, 16),
	shape(0x0a01<<48, 0, 0, 0, 16),
	shape(0x0a01<<48, 0, 0xfffe<<48, 0, 16),
	shape(0x0a01<<48, 0, 0xffff<<48, 0, 16),
	shape(0x0a01<<48, 0, 0xffff<<48, 1, 16),
	shape(0x0a01<<48, 0, 0xffff<<48|1, 0, 16),
	shape(0x0a01<<48, 1, 0xffff<<48, 1, 16),
	shape(0x0a01<<48|1, 0, 0xffff<<48|1, 0, 16),
	shape(0x0a02<<48, 0, 0xffff<<48, 0, 16),
	shape(0x8a01<<48, 0, 0xffff<<48, 0, 16),
	shape(0x0a01<<48, 0, 0xffff<<48, 0, 15),
	shape(0x0a00<<48, 0, 0xff00<<48, 0, 8),
	{Len: 0},
	{Len: -1},
	{Len: -1 << 32},
	{Len: math.MinInt},
}

// shape is an entry without an action: both halves of its Value, and of its Mask.
func shape(v0, v1, m0, m1 uint64, n int) entry.Entry {
	return entry.Entry{W: word.Word{Value: addr.Addr{v0, v1}, Mask: addr.Addr{m0, m1}}, Len: n}
}

// item is an entry: the number of its shape, and its action. What the package
// answers is held against such pairs of numbers: the entries of items are alike
// if the first numbers are equal, and sorted if these increase.
type item struct{ shape, action int }

// change is a step.
type change struct {
	kind int
	x    item
}

func (x item) entry() entry.Entry {
	e := shapes[x.shape]
	e.Action = x.action
	return e
}

func entries(l []item) []entry.Entry {
	var made []entry.Entry
	for _, x := range l {
		made = append(made, x.entry())
	}
	return made
}

func steps(l []change) []diff.Step {
	var made []diff.Step
	for _, c := range l {
		made = append(made, diff.Step{Kind: c.kind, E: c.x.entry()})
	}
	return made
}

// first is the first item of a list with some shape.
func first(l []item, shape int) (item, bool) {
	for _, x := range l {
		if x.shape == shape {
			return x, true
		}
	}
	return item{}, false
}

// once is the document's own definition.
func once(l []item) []item {
	var made []item
	for i, x := range l {
		if _, before := first(l[:i], x.shape); !before {
			made = append(made, x)
		}
	}
	return made
}

// changes is the document's own definition, as the shapes are sorted.
func changes(old, new []item) []change {
	var l []change
	for k := range shapes {
		was, inOld := first(old, k)
		is, inNew := first(new, k)
		if inNew && !inOld {
			l = append(l, change{0, is})
		}
		if inNew && inOld && was.action != is.action {
			l = append(l, change{1, is})
		}
	}
	for k := len(shapes) - 1; k >= 0; k-- {
		was, inOld := first(old, k)
		if _, inNew := first(new, k); inOld && !inNew {
			l = append(l, change{2, was})
		}
	}
	return l
}

// done is the document's own definition.
func done(l []item, c change) []item {
	var made []item
	for _, x := range l {
		switch {
		case x.shape != c.x.shape || c.kind != 1 && c.kind != 2:
			made = append(made, x)
		case c.kind == 1:
			made = append(made, c.x)
		}
	}
	if c.kind == 0 {
		made = append(made, c.x)
	}
	return made
}

// others are numbers that are no kinds: at the edges of these, and far beyond,
// some of which become a kind if they are cut to fewer bits.
var others = []int{-1, 3, 4, -2, -3, 255, 256, 257, 258, -256, 1 << 32, 1<<32 + 1, 1<<32 + 2, -1 << 32, math.MaxInt, math.MinInt, math.MinInt + 1, math.MinInt + 2}

// sequence makes numbers without a pattern, always the same ones.
func sequence(seed uint64) func(below int) int {
	x := seed
	return func(below int) int {
		x = x*6364136223846793005 + 1442695040888963407
		return int(x >> 33 % uint64(below))
	}
}

// lists calls f with all lists of up to so many of some items.
func lists(from []item, most int, f func(l []item)) {
	var longer func(l []item)
	longer = func(l []item) {
		f(l)
		for _, x := range from {
			if len(l) < most {
				longer(append(slices.Clone(l), x))
			}
		}
	}
	longer(nil)
}

// all are those lists.
func all(from []item, most int) [][]item {
	var l [][]item
	lists(from, most, func(x []item) { l = append(l, x) })
	return l
}

// of are the items of some shapes with some actions.
func of(numbers []int, actions ...int) []item {
	var l []item
	for _, k := range numbers {
		for _, action := range actions {
			l = append(l, item{k, action})
		}
	}
	return l
}

// random are items without a pattern.
func random(next func(below int) int, many, kinds, acts int) []item {
	var l []item
	for range many {
		l = append(l, item{next(kinds), next(acts)})
	}
	return l
}

// sorted makes lists equal that differ in their order alone.
func sorted(l []entry.Entry) []entry.Entry { return slices.SortedFunc(slices.Values(l), entry.Compare) }

// checkOnce holds Once against the definition, and the list against what it was.
func checkOnce(t *testing.T, l []item) {
	t.Helper()
	given := entries(l)
	if got, want := diff.Once(given), entries(once(l)); !slices.Equal(got, want) {
		t.Fatalf("Once(%v): %x, not %x", l, got, want)
	}
	if !slices.Equal(given, entries(l)) {
		t.Fatalf("Once has changed the list %v", l)
	}
}

// checkSteps holds Steps against the definition, the lists against what they
// were, and the second list against what the first one becomes.
func checkSteps(t *testing.T, old, new []item) {
	t.Helper()
	was, is := entries(old), entries(new)
	got, want := diff.Steps(was, is), changes(old, new)
	if !slices.Equal(got, steps(want)) {
		t.Fatalf("Steps(%v, %v): %x, not %v", old, new, got, want)
	}
	if !slices.Equal(was, entries(old)) || !slices.Equal(is, entries(new)) {
		t.Fatalf("Steps has changed the lists %v and %v", old, new)
	}
	var n [3]int
	for _, c := range want {
		n[c.kind]++
	}
	if diff.Count(got) != n {
		t.Fatalf("Count of the steps from %v to %v: %d", old, new, diff.Count(got))
	}
	whole, single := was, diff.Once(was)
	for _, s := range got {
		whole, single = diff.Do(whole, s), diff.Do(single, s)
	}
	end := sorted(entries(once(new)))
	if !slices.Equal(sorted(single), end) || !slices.Equal(sorted(diff.Once(whole)), end) {
		t.Fatalf("the steps from %v to %v lead to %x", old, new, whole)
	}
}

// checkDo holds Do against the definition, and the list against what it was.
func checkDo(t *testing.T, l []item, c change) {
	t.Helper()
	given := entries(l)
	if got, want := diff.Do(given, steps([]change{c})[0]), entries(done(l, c)); !slices.Equal(got, want) {
		t.Fatalf("Do(%v, %v): %x, not %x", l, c, got, want)
	}
	if !slices.Equal(given, entries(l)) {
		t.Fatalf("Do has changed the list %v", l)
	}
}

// TestShapes checks what the items of these tests rest on.
func TestShapes(t *testing.T) {
	for i := range shapes {
		for j := range shapes {
			x, y := item{i, 9 - i}.entry(), item{j, j}.entry()
			if entry.Alike(x, y) != (i == j) || i != j && entry.Compare(x, y) < 0 != (i < j) {
				t.Errorf("the shapes %d and %d are not as they should be", i, j)
			}
		}
	}
}

func TestKinds(t *testing.T) { // P11.1
	if diff.Add != 0 || diff.Set != 1 || diff.Drop != 2 {
		t.Error("the kinds are", diff.Add, diff.Set, diff.Drop)
	}
}

// TestAllPairs has all lists of up to two items of two shapes, each with the
// actions 1 and 2: all pairs of shapes.
func TestAllPairs(t *testing.T) { // P11.1, P11.2
	for i := range shapes {
		for j := range i {
			l := all(of([]int{i, j}, 1, 2), 2)
			for _, old := range l {
				checkOnce(t, old)
				for _, new := range l {
					checkSteps(t, old, new)
				}
			}
		}
	}
}

// TestAllLists has all lists of up to three items of three shapes, some of them
// with actions at and beyond the edges.
func TestAllLists(t *testing.T) { // P11.1, P11.2
	for _, from := range [][]item{
		of([]int{19, 11, 10}, 1, 255), of([]int{12, 16, 13}, 0, 256), of([]int{0, 23, 20}, math.MinInt, math.MaxInt),
	} {
		l := all(from, 3)
		for _, old := range l {
			checkOnce(t, old)
			for _, new := range l {
				checkSteps(t, old, new)
			}
		}
	}
}

// TestDo has each kind of step for all lists of up to four items, and steps whose
// entry is not in the list.
func TestDo(t *testing.T) { // P11.1
	from := of([]int{19, 11, 10}, 1, 2)
	lists(from[:4], 4, func(l []item) {
		for _, x := range from {
			for kind := range 3 {
				checkDo(t, l, change{kind, x})
			}
			for _, kind := range others {
				checkDo(t, l, change{kind, x})
			}
		}
	})
}

// TestDoAtEach has a list of all shapes, with each of them in turn in the step.
func TestDoAtEach(t *testing.T) { // P11.1
	var l []item
	for k := range shapes {
		l = append(l, item{k, k}, item{len(shapes) - 1 - k, -k})
	}
	for k := range shapes {
		for kind := -1; kind <= 3; kind++ {
			checkDo(t, l, change{kind, item{k, 7}})
			checkDo(t, l[:2*k], change{kind, item{k, 7}})
		}
	}
}

// TestWithoutPattern has lists of all shapes with many repetitions, or few.
func TestWithoutPattern(t *testing.T) { // P11.1, P11.2
	next := sequence(1)
	for i := range 6000 {
		kinds, acts := 1+next(len(shapes)), 1+next(5)
		old := random(next, next(1+i%80), kinds, acts)
		new := random(next, next(1+i%80), kinds, acts)
		if i%3 == 0 {
			new = append(new, old[next(1+len(old)):]...)
		}
		checkOnce(t, old)
		checkSteps(t, old, new)
		for range 5 {
			checkDo(t, old, change{next(5) - 1, random(next, 1, len(shapes), acts)[0]})
		}
	}
}

// TestEachBit turns one bit of a Value, of a Mask or of a Len: the entries are
// not alike, and which one is added or dropped first follows from that bit.
func TestEachBit(t *testing.T) { // P11.1
	x := shape(0x0a01020304050607, 0x70f1f2f3f4f5f6f7, 0xfff0ff00fff0ff00, 0x00ff0fff00ff0fff, 100)
	x.Action = 5
	var turned []entry.Entry
	for k := range api.V6 {
		y, z := x, x
		y.W.Value = addr.With(x.W.Value, k, !addr.Bit(x.W.Value, k))
		z.W.Mask = addr.With(x.W.Mask, k, !addr.Bit(x.W.Mask, k))
		turned = append(turned, y, z)
	}
	for k := range 64 {
		y := x
		y.Len ^= 1 << k
		turned = append(turned, y)
	}
	for _, y := range turned {
		both := []entry.Entry{x, y}
		sorted := both
		if entry.Compare(y, x) < 0 {
			sorted = []entry.Entry{y, x}
		}
		if got := diff.Once([]entry.Entry{x, y, x, y}); !slices.Equal(got, both) {
			t.Errorf("Once of %x: %x", both, got)
		}
		want := []diff.Step{{diff.Add, y}, {diff.Drop, x}}
		if got := diff.Steps(both[:1], both[1:]); !slices.Equal(got, want) {
			t.Errorf("Steps from %x to %x: %x", x, y, got)
		}
		want = []diff.Step{{diff.Add, sorted[0]}, {diff.Add, sorted[1]}}
		if got := diff.Steps(nil, both); !slices.Equal(got, want) {
			t.Errorf("Steps from none to %x: %x", both, got)
		}
		want = []diff.Step{{diff.Drop, sorted[1]}, {diff.Drop, sorted[0]}}
		if got := diff.Steps(both, nil); !slices.Equal(got, want) {
			t.Errorf("Steps from %x to none: %x", both, got)
		}
		for _, kind := range []int{diff.Set, diff.Drop} {
			if got := diff.Do(both[:1], diff.Step{Kind: kind, E: y}); !slices.Equal(got, both[:1]) {
				t.Errorf("Do with %x, which is not alike: %x", y, got)
			}
		}
	}
}

// TestActions has pairs of actions: only if they differ is there a Set, however
// near each other they are.
func TestActions(t *testing.T) { // P11.1
	actions := []int{math.MinInt, math.MinInt + 1, -1 << 32, -1, 256, 1 << 32, 1<<32 + 1, math.MaxInt - 1, math.MaxInt}
	for action := range 256 {
		actions = append(actions, action)
	}
	for _, from := range actions {
		for _, to := range actions {
			checkSteps(t, []item{{11, from}}, []item{{11, to}})
		}
		checkDo(t, []item{{11, from}, {10, 1}, {11, 1}}, change{diff.Set, item{11, from}})
		checkDo(t, []item{{11, from}, {10, 1}, {11, 1}}, change{diff.Drop, item{11, 2}})
	}
}

// TestByHand has lists whose results are written out, whatever the definitions in
// these tests say: x, y and z are longer and longer.
func TestByHand(t *testing.T) { // P11.1
	x, y, z := item{20, 1}, item{19, 2}, item{11, 3}
	other := func(x item) item { return item{x.shape, x.action + 10} }
	for _, c := range []struct {
		name     string
		old, new []item
		want     []change
	}{
		{"no entries", nil, nil, nil},
		{"the same entries", []item{x, y, z}, []item{z, x, y}, nil},
		{"Adds alone", nil, []item{x, y, z}, []change{{0, z}, {0, y}, {0, x}}},
		{"Drops alone", []item{z, x, y}, nil, []change{{2, x}, {2, y}, {2, z}}},
		{"Sets alone", []item{x, y, z}, []item{other(x), other(y), other(z)}, []change{{1, other(z)}, {1, other(y)}, {1, other(x)}}},
		{"an Add between Sets", []item{x, z}, []item{other(x), y, other(z)}, []change{{1, other(z)}, {0, y}, {1, other(x)}}},
		{"a Drop after an Add", []item{z}, []item{x}, []change{{0, x}, {2, z}}},
		{"a Drop after a Set", []item{z, x}, []item{other(x)}, []change{{1, other(x)}, {2, z}}},
		{"an Add twice", nil, []item{x, other(x)}, []change{{0, x}}},
		{"a Drop twice", []item{other(y), y}, nil, []change{{2, other(y)}}},
		{"the first one is the same", []item{y, other(y)}, []item{y, z}, []change{{0, z}}},
		{"the first one differs", []item{other(y), y}, []item{y, other(y)}, []change{{1, y}}},
	} {
		if got := diff.Steps(entries(c.old), entries(c.new)); !slices.Equal(got, steps(c.want)) {
			t.Errorf("%s: %x, not %v", c.name, got, c.want)
		}
	}
}

func TestCount(t *testing.T) { // P11.1
	next := sequence(2)
	for i := range 200 {
		var l []diff.Step
		var want [3]int
		for range next(3 * (i + 1)) {
			s := diff.Step{Kind: next(3), E: item{next(len(shapes)), next(9) - 4}.entry()}
			want[s.Kind]++
			l = append(l, s)
			if next(2) == 0 {
				l = append(l, diff.Step{Kind: others[next(len(others))]})
			}
		}
		was := slices.Clone(l)
		if got := diff.Count(l); got != want || !slices.Equal(l, was) {
			t.Errorf("Count(%v): %v, not %v", was, got, want)
		}
	}
	for kind := range 3 {
		var want [3]int
		want[kind] = 1
		if got := diff.Count([]diff.Step{{Kind: kind}}); got != want {
			t.Errorf("Count of a step of the kind %d: %v", kind, got)
		}
	}
	for _, kind := range others {
		if got := diff.Count([]diff.Step{{Kind: kind}, {Kind: kind}}); got != [3]int{} {
			t.Errorf("Count of steps of the kind %d: %v", kind, got)
		}
	}
	if diff.Count(nil) != [3]int{} || diff.Count([]diff.Step{}) != [3]int{} {
		t.Error("Count of no steps")
	}
}

// ten is a prefix of V4.
func ten(a uint64, n int) prefix.Prefix { return prefix.Make(addr.Addr{a << 32, 0}, n) }

func TestExample(t *testing.T) { // example 1
	net, sub := ten(0x0a000000, 8), ten(0x0a010000, 16)
	old := []entry.Entry{entry.Of(net, 1)}
	new := []entry.Entry{entry.Of(net, 2), entry.Of(sub, 3)}
	got := diff.Steps(old, new)
	if want := []diff.Step{{diff.Add, new[1]}, {diff.Set, new[0]}}; !slices.Equal(got, want) {
		t.Errorf("the example: %x", got)
	}
	if diff.Count(got) != [3]int{1, 1, 0} {
		t.Errorf("the numbers of its steps: %v", diff.Count(got))
	}
	l := diff.Do(old, got[0])
	if !slices.Equal(l, []entry.Entry{old[0], new[1]}) || !slices.Equal(diff.Do(l, got[1]), new) {
		t.Errorf("the lists after its steps: %x, %x", l, diff.Do(l, got[1]))
	}
	if back := diff.Steps(new, old); !slices.Equal(back, []diff.Step{{diff.Set, old[0]}, {diff.Drop, new[1]}}) {
		t.Errorf("the example, reversed: %x", back)
	}
}

// eight are the addresses of eight bits, each with what follows them at 0 and at
// 1, behind some bits.
func eight(behind int) []addr.Addr {
	var l []addr.Addr
	for v := range uint64(256) {
		a := addr.Addr{v << 56, 0}
		if behind == 64 {
			a = addr.Addr{0, v << 56}
		}
		l = append(l, a, prefix.Last(api.V6, prefix.Make(a, behind+8)))
	}
	return l
}

// checkOnTheWay has two lists that are Simple: after each step, each address has
// the action that one of them gives it, and in the end the latter's.
func checkOnTheWay(t *testing.T, old, new []entry.Entry, at []addr.Addr) {
	t.Helper()
	if !merge.Simple(old) || !merge.Simple(new) {
		t.Fatalf("the lists %x and %x are not Simple", old, new)
	}
	var before, after []int
	for _, a := range at {
		before, after = append(before, entry.Tell(old, a)), append(after, entry.Tell(new, a))
	}
	l := old
	for n, s := range diff.Steps(old, new) {
		l = diff.Do(l, s)
		for i, a := range at {
			if got := entry.Tell(l, a); got != before[i] && got != after[i] {
				t.Fatalf("from %x to %x: after step %d, %x has the action %d, not %d or %d", old, new, n, a, got, before[i], after[i])
			}
		}
	}
	if !slices.Equal(sorted(l), sorted(new)) {
		t.Fatalf("the steps from %x to %x lead to %x", old, new, l)
	}
}

// words are the nine words that tell two bits or leave them free, at both sides
// of the middle of an address, and elsewhere tell 0.
func words() []word.Word {
	var l []word.Word
	mask := addr.Addr{ones - 1, ones >> 1}
	for v := range 9 {
		w := word.Word{Mask: mask}
		for i, k := range []int{63, 64} {
			digit := []int{v % 3, v / 3}[i]
			w.Value = addr.With(w.Value, k, digit == 1)
			w.Mask = addr.With(w.Mask, k, digit < 2)
		}
		l = append(l, w)
	}
	return l
}

// simple are the lists of up to so many of some entries that are Simple, in any
// order.
func simple(from []entry.Entry, most int) [][]entry.Entry {
	l := [][]entry.Entry{nil}
	for k := 0; k < len(l); k++ {
		for _, x := range from {
			longer := append(slices.Clone(l[k]), x)
			if len(longer) <= most && merge.Simple(longer) {
				l = append(l, longer)
			}
		}
	}
	return l
}

// TestOnTheWayOfWords has lists of entries whose words overlap in all ways, those
// of the same length among them.
func TestOnTheWayOfWords(t *testing.T) { // P11.2
	var from []entry.Entry
	for _, w := range words() {
		for _, n := range []int{8, 9, 10} {
			from = append(from, entry.Entry{W: w, Len: n, Action: 1 + len(from)})
		}
	}
	at := []addr.Addr{{0, 0}, {1, 0}, {0, 1 << 63}, {1, 1 << 63}}
	two := simple(from, 2)
	for i, old := range two {
		for j := i % 3; j < len(two); j += 3 {
			checkOnTheWay(t, old, two[j], at)
		}
	}
	var few []entry.Entry
	for i, x := range from {
		if i%4 != 3 && x.Len < 10 {
			few = append(few, x)
			x.Action += 100
			few = append(few, x)
		}
	}
	four := simple(few, 4)
	next := sequence(3)
	for range 60_000 {
		checkOnTheWay(t, four[next(len(four))], four[next(len(four))], at)
	}
}

// table is one without a pattern, whose prefixes have up to eight bits behind
// some place.
func table(next func(below int) int, many, acts, behind int) []rib.Route {
	at := eight(behind)
	var l []rib.Route
	for range many {
		p := prefix.Make(at[next(len(at))], behind+8-next(9)*next(2))
		l = rib.Put(l, rib.Route{P: p, Action: 1 + next(acts)})
	}
	return l
}

// TestOnTheWayOfTables has tables in each mode, which one change or many lead to
// another one, or to the same one in another mode.
func TestOnTheWayOfTables(t *testing.T) { // P11.2
	next := sequence(4)
	for i := range 30 {
		behind := i % 2 * 64
		at := eight(behind)
		old := table(next, 1+i*8, 1+i%4, behind)
		r := table(next, 1, 4, behind)[0]
		for _, new := range [][]rib.Route{old, rib.Put(old, r), rib.Drop(old, old[next(len(old))].P), table(next, 1+next(100), 3, behind)} {
			for mode := merge.Plain; mode <= merge.Merged; mode++ {
				to := mode
				if i%3 == 0 {
					to = next(3)
				}
				checkOnTheWay(t, merge.Build(old, mode), merge.Build(new, to), at)
			}
		}
	}
}

// TestTower has prefixes of all lengths, each of which covers the next one. All
// of them are added, set and dropped, whose order is thus that of their lengths.
func TestTower(t *testing.T) { // P11.1, P11.2
	a := addr.Addr{0x0a01020304050607, 0x70f1f2f3f4f5f6f7}
	var one, two []entry.Entry
	var add, set, drop []diff.Step
	for n := range api.V6 + 1 {
		x, y := entry.Of(prefix.Make(a, n), 1+n), entry.Of(prefix.Make(a, n), 255-n/2)
		one, two = append(one, x), append(two, y)
		add, set = append(add, diff.Step{Kind: diff.Add, E: x}), append(set, diff.Step{Kind: diff.Set, E: y})
		drop = append(drop, diff.Step{Kind: diff.Drop, E: y})
	}
	slices.Reverse(add)
	slices.Reverse(set)
	var at []addr.Addr
	for k := range api.V6 {
		at = append(at, addr.With(a, k, !addr.Bit(a, k)))
	}
	at = append(at, a)
	for _, c := range []struct {
		old, new []entry.Entry
		want     []diff.Step
	}{{nil, one, add}, {one, two, set}, {two, nil, drop}} {
		if got := diff.Steps(c.old, c.new); !slices.Equal(got, c.want) {
			t.Errorf("from %d entries to %d: %x", len(c.old), len(c.new), got)
		}
		checkOnTheWay(t, c.old, c.new, at)
	}
}

// soil changes a list, with its spare memory.
func soil(l []entry.Entry) {
	for i := range l[:cap(l)] {
		l[:cap(l)][i] = entry.Entry{Len: 99, Action: 99}
	}
}

// results are what the calls return for lists, all with lists of entries.
func results(old, new []entry.Entry, s []diff.Step) [][]entry.Entry {
	l := [][]entry.Entry{diff.Once(old), diff.Once(new)}
	for _, step := range s {
		for kind := -1; kind <= 3; kind++ {
			l = append(l, diff.Do(old, diff.Step{Kind: kind, E: step.E}))
		}
	}
	return l
}

// clones are lists that share no memory with others.
func clones(l [][]entry.Entry) [][]entry.Entry {
	var made [][]entry.Entry
	for _, x := range l {
		made = append(made, slices.Clone(x))
	}
	return made
}

// TestMemory has lists with spare memory, which no call may touch, and changes
// what was returned, which may change nothing else.
func TestMemory(t *testing.T) { // P11.1
	next := sequence(5)
	for i := range 150 {
		spare := entries(random(next, 30+i%40, 1+i%len(shapes), 3))
		were := slices.Clone(spare)
		old, new := spare[:i%20], spare[20:20+i%7]
		s := diff.Steps(old, new)
		steps := slices.Clone(s)
		again := diff.Steps(old, new)
		for k := range again[:cap(again)] {
			again[:cap(again)][k] = diff.Step{Kind: 9}
		}
		diff.Count(s[:len(s)/2])
		got := results(old, new, s)
		stay := clones(got)
		for _, l := range results(old, new, s) {
			soil(l)
		}
		if !slices.Equal(spare, were) || !slices.Equal(s, steps) {
			t.Fatalf("memory behind %d and %d entries was changed", len(old), len(new))
		}
		soil(spare)
		for k, l := range got {
			if !slices.Equal(l, stay[k]) || !slices.Equal(s, steps) {
				t.Fatalf("result %d for %d and %d entries shares memory", k, len(old), len(new))
			}
			soil(l)
		}
	}
}

// TestMemoryOfNoChange has calls whose result is the list itself.
func TestMemoryOfNoChange(t *testing.T) { // P11.1
	was := entries([]item{{1, 1}, {2, 2}, {3, 3}})
	absent := item{4, 4}.entry()
	for n := range 4 {
		l := slices.Clone(was)
		soil(diff.Once(l[:n]))
		for kind := -1; kind <= 3; kind++ {
			soil(diff.Do(l[:n], diff.Step{Kind: kind, E: absent}))
		}
		if !slices.Equal(l, was) {
			t.Errorf("a result for %d entries shares memory with them", n)
		}
	}
}

// TestAgain has each call several times and with other capacities, and nil and
// empty lists, which are equivalent.
func TestAgain(t *testing.T) { // P11.1
	next := sequence(6)
	for range 100 {
		old, new := entries(random(next, 40, 20, 3)), entries(random(next, 40, 20, 3))
		want := diff.Steps(old, new)
		for range 5 {
			if got := diff.Steps(slices.Grow(old, next(90)), slices.Grow(new, next(90))); !slices.Equal(got, want) {
				t.Fatalf("Steps(%x, %x): %x and %x", old, new, got, want)
			}
			if !slices.Equal(diff.Once(old), diff.Once(slices.Grow(old, next(90)))) {
				t.Fatalf("Once(%x) differs", old)
			}
		}
		if got := diff.Steps(old, old); len(got) != 0 {
			t.Fatalf("Steps of a list to itself: %x", got)
		}
	}
	x := item{9, 9}.entry()
	none := [][]entry.Entry{nil, {}, make([]entry.Entry, 0, 9)}
	for _, l := range none {
		for _, m := range none {
			if len(diff.Once(l)) != 0 || len(diff.Steps(l, m)) != 0 {
				t.Error("Once and Steps of no entries")
			}
		}
		for kind := -1; kind <= 3; kind++ {
			got := diff.Do(l, diff.Step{Kind: kind, E: x})
			if kind == diff.Add && !slices.Equal(got, []entry.Entry{x}) || kind != diff.Add && len(got) != 0 {
				t.Errorf("Do of no entries and a step of the kind %d: %x", kind, got)
			}
		}
	}
}

// TestLongLists are far longer than what a bank can have.
func TestLongLists(t *testing.T) { // P11.1
	const many = 200_000
	var apart, turned, same, odd []entry.Entry
	for i := range many {
		x := shape(0, uint64(i), 0, ones, 64)
		x.Action = 1
		apart = append(apart, x)
		x.Action = 2
		turned = append(turned, x)
		same = append(same, shapes[7])
		if i%2 == 1 {
			odd = append(odd, x)
		}
	}
	slices.Reverse(turned)
	for _, c := range []struct {
		name     string
		old, new []entry.Entry
		want     [3]int
	}{
		{"all are added", nil, apart, [3]int{many, 0, 0}},
		{"all are set", apart, turned, [3]int{0, many, 0}},
		{"all are dropped", turned, nil, [3]int{0, 0, many}},
		{"half of them are dropped", apart, odd, [3]int{0, many / 2, many / 2}},
		{"half of them are added", odd, turned, [3]int{many / 2, 0, 0}},
		{"all are replaced", apart, same, [3]int{1, 0, many}},
		{"all are the same", same, same, [3]int{}},
	} {
		got := diff.Steps(c.old, c.new)
		if diff.Count(got) != c.want || len(got) != c.want[0]+c.want[1]+c.want[2] {
			t.Errorf("Steps where %s: %v", c.name, diff.Count(got))
		}
	}
	if !slices.Equal(diff.Once(apart), apart) || len(diff.Once(same)) != 1 {
		t.Error("Once of long lists")
	}
	if len(diff.Do(same, diff.Step{Kind: diff.Drop, E: same[0]})) != 0 || len(diff.Do(apart, diff.Step{Kind: diff.Add, E: apart[0]})) != many+1 {
		t.Error("Do of long lists")
	}
}

// TestFullBank has as many entries as a bank has slots, with the order of the
// steps written by their actions.
func TestFullBank(t *testing.T) { // P11.1, P11.2
	next := sequence(7)
	var old, new []entry.Entry
	for i := range api.MaxSlots {
		old = append(old, entry.Of(prefix.Make(addr.Addr{uint64(i) << 40, 0}, 24), 1+i%api.MaxAction))
		new = append(new, entry.Of(prefix.Make(addr.Addr{uint64(i) << 36, 1}, 28), 1+i%api.MaxAction))
	}
	want := ""
	for i := range api.MaxSlots {
		want += fmt.Sprint(" 0 ", 1+i%api.MaxAction)
	}
	for i := api.MaxSlots - 1; i >= 0; i-- {
		want += fmt.Sprint(" 2 ", 1+i%api.MaxAction)
	}
	for i := range new {
		j := next(i + 1)
		new[i], new[j] = new[j], new[i]
		old[i], old[j] = old[j], old[i]
	}
	got := ""
	for _, s := range diff.Steps(old, new) {
		got += fmt.Sprint(" ", s.Kind, " ", s.E.Action)
	}
	if got != want {
		t.Errorf("the steps between full banks:%s", got)
	}
}
