package plan_test

import (
	"fmt"
	"math"
	"slices"
	"strings"
	"testing"

	"pigeonhole/addr"
	"pigeonhole/api"
	"pigeonhole/bank"
	"pigeonhole/cao"
	"pigeonhole/diff"
	"pigeonhole/entry"
	"pigeonhole/plan"
	"pigeonhole/plo"
	"pigeonhole/prefix"
	"pigeonhole/word"
)

// orders are the two of the chapter.
var orders = []int{0, 1}

// strange are numbers that are neither an order nor the kind of a step; some of
// them become one if they are cut to fewer bits, or negated.
var strange = []int{
	math.MinInt, math.MinInt + 1, math.MinInt32, -1 << 32, -1<<32 + 1, -257, -256, -255, -2, -1, 3, 4, 255, 256, 257, 258,
	1 << 16, 1<<16 + 1, 1 << 31, 1 << 32, 1<<32 + 1, 1<<32 + 2, math.MaxInt - 1, math.MaxInt,
}

// sequence makes numbers without a pattern, always the same ones.
func sequence(seed uint64) func(below int) int {
	x := seed
	return func(below int) int {
		x = x*6364136223846793005 + 1442695040888963407
		return int(x >> 33 % uint64(below))
	}
}

// shaped is an entry whose word is a text of 0, 1 and dots for free bits, with e
// for none; a Len that does not follow from it stands behind a slash, and an
// action other than 1 behind a colon.
func shaped(text string) entry.Entry {
	text, action, acts := strings.Cut(text, ":")
	bits, n, told := strings.Cut(text, "/")
	bits = strings.TrimPrefix(bits, "e")
	x := entry.Entry{Len: len(bits), Action: 1}
	for i, c := range bits {
		if c != '.' {
			x.W.Mask = addr.With(x.W.Mask, i, true)
			x.W.Value = addr.With(x.W.Value, i, c == '1')
		}
	}
	if told {
		fmt.Sscan(n, &x.Len)
	}
	if acts {
		fmt.Sscan(action, &x.Action)
	}
	return x
}

func full(x entry.Entry) bank.Slot { return bank.Slot{Valid: true, E: x} }

// drawn is a slot that is written as a text: a dash is the empty one, and an entry
// with a tilde before it is in a slot that is not Valid.
func drawn(text string) bank.Slot {
	if text == "-" {
		return bank.Slot{}
	}
	if rest, litter := strings.CutPrefix(text, "~"); litter {
		return bank.Slot{E: shaped(rest)}
	}
	return full(shaped(text))
}

func slots(text string) []bank.Slot {
	var l []bank.Slot
	for _, part := range strings.Fields(text) {
		l = append(l, drawn(part))
	}
	return l
}

// step is written as a text: + for an Add, = for a Set, and x for a Drop, with the
// entry behind it.
func step(text string) diff.Step {
	return diff.Step{Kind: strings.Index("+=x", text[:1]), E: shaped(text[1:])}
}

func steps(text string) []diff.Step {
	var l []diff.Step
	for _, part := range strings.Fields(text) {
		l = append(l, step(part))
	}
	return l
}

// writes are written as a text: the slot that is written, and what it becomes.
func writes(text string) []bank.Write {
	var w []bank.Write
	for _, part := range strings.Fields(text) {
		to, what, _ := strings.Cut(part, "=")
		at := 0
		fmt.Sscan(to, &at)
		w = append(w, bank.Write{At: at, S: drawn(what)})
	}
	return w
}

// lists calls f with all lists of up to so many of some things.
func lists[T any](from []T, most int, f func(l []T)) {
	var longer func(l []T)
	longer = func(l []T) {
		f(l)
		for _, x := range from {
			if len(l) < most {
				longer(append(slices.Clone(l), x))
			}
		}
	}
	longer(nil)
}

// right is the definition of layer 5.
func right(x entry.Entry) bool {
	for i := range x.W.Value {
		if x.W.Value[i]&^x.W.Mask[i] != 0 {
			return false
		}
	}
	return x.Len >= 0 && x.Len <= 128 && x.Action >= 1 && x.Action <= 255
}

// alike is the definition of layer 5.
func alike(x, y entry.Entry) bool {
	return x.W.Value == y.W.Value && x.W.Mask == y.W.Mask && x.Len == y.Len
}

// meets tells whether an address matches two words.
func meets(x, y word.Word) bool {
	for i := range x.Mask {
		if (x.Value[i]^y.Value[i])&x.Mask[i]&y.Mask[i] != 0 {
			return false
		}
	}
	return true
}

// before is what has an entry come before another one in an order.
func before(order int, x, y entry.Entry) bool {
	return x.Len > y.Len && (order == 0 || meets(x.W, y.W))
}

// kept is the definition of layers 12 and 13.
func kept(order int, l []bank.Slot) bool {
	for j := range l {
		for k := range j {
			if l[j].Valid && l[k].Valid && before(order, l[j].E, l[k].E) {
				return false
			}
		}
	}
	return true
}

// applied is the definition of layer 8.
func applied(l []bank.Slot, w []bank.Write) []bank.Slot {
	after := slices.Clone(l)
	for _, m := range w {
		empty := m.S == bank.Slot{}
		if m.At >= 0 && m.At < len(l) && (empty || m.S.Valid && right(m.S.E)) {
			after[m.At] = m.S
		}
	}
	return after
}

// inserted is what the package of an order has.
func inserted(order int, l []bank.Slot, x entry.Entry) ([]bank.Write, api.Errno) {
	switch order {
	case 0:
		return plo.Insert(l, x)
	case 1:
		return cao.Insert(l, x)
	}
	return nil, api.ErrBad
}

// one is the chapter's own definition.
func one(order int, l []bank.Slot, s diff.Step) ([]bank.Write, api.Errno) {
	if order != 0 && order != 1 || s.Kind < 0 || s.Kind > 2 || !right(s.E) {
		return nil, api.ErrBad
	}
	if s.Kind == 0 {
		return inserted(order, l, s.E)
	}
	var w []bank.Write
	for k := range l {
		switch {
		case !l[k].Valid || !alike(l[k].E, s.E):
		case s.Kind == 1 && l[k].E.Action != s.E.Action:
			w = append(w, bank.Write{At: k, S: full(s.E)})
		case s.Kind == 2:
			w = append(w, bank.Write{At: k})
		}
	}
	return w, api.OK
}

// all is the chapter's own definition.
func all(order int, l []bank.Slot, steps []diff.Step) ([]bank.Write, api.Errno) {
	var made []bank.Write
	for _, s := range steps {
		w, e := one(order, l, s)
		if e != api.OK {
			return nil, e
		}
		l = applied(l, w)
		made = slices.Concat(made, w)
	}
	return made, api.OK
}

// twins is the chapter's own definition.
func twins(l []bank.Slot) []bank.Write {
	var w []bank.Write
	for k := range l {
		for j := range k {
			if l[j].Valid && l[k].Valid && alike(l[j].E, l[k].E) {
				w = append(w, bank.Write{At: k})
				break
			}
		}
	}
	return w
}

// checkOne holds One against the definition.
func checkOne(t *testing.T, order int, l []bank.Slot, s diff.Step) {
	t.Helper()
	was := slices.Clone(l)
	want, no := one(order, l, s)
	if got, e := plan.One(order, l, s); e != no || !slices.Equal(got, want) {
		t.Fatalf("One of %v in the order %d of %v: %v, %v, not %v, %v", s, order, l, got, e, want, no)
	}
	if !slices.Equal(l, was) {
		t.Fatalf("One of %v has changed the slots %v", s, was)
	}
}

// checkAll holds All against the definition.
func checkAll(t *testing.T, order int, l []bank.Slot, steps []diff.Step) {
	t.Helper()
	was, were := slices.Clone(l), slices.Clone(steps)
	want, no := all(order, l, steps)
	if got, e := plan.All(order, l, steps); e != no || !slices.Equal(got, want) {
		t.Fatalf("All of %v in the order %d of %v: %v, %v, not %v, %v", steps, order, l, got, e, want, no)
	}
	if !slices.Equal(l, was) || !slices.Equal(steps, were) {
		t.Fatalf("All has changed the slots %v or the steps %v", was, were)
	}
}

// checkTwins holds Twins against the definition, and has the slots afterwards.
func checkTwins(t *testing.T, l []bank.Slot) {
	t.Helper()
	was := slices.Clone(l)
	got, want := plan.Twins(l), twins(l)
	if !slices.Equal(got, want) {
		t.Fatalf("Twins of %v: %v, not %v", l, got, want)
	}
	if !slices.Equal(l, was) {
		t.Fatalf("Twins has changed the slots %v", was)
	}
	if left := plan.Twins(applied(l, got)); len(left) != 0 {
		t.Fatalf("Twins of %v leaves %v", l, left)
	}
}

// checkInsert holds Kept and Insert against those of the package of the order.
func checkInsert(t *testing.T, order int, l []bank.Slot, xs []entry.Entry) {
	t.Helper()
	was := slices.Clone(l)
	if got := plan.Kept(order, l); got != kept(order, l) {
		t.Fatalf("Kept of the order %d of %v: %t", order, l, got)
	}
	for _, x := range xs {
		want, no := inserted(order, l, x)
		if got, e := plan.Insert(order, l, x); e != no || !slices.Equal(got, want) {
			t.Fatalf("Insert of %v in the order %d into %v: %v, %v, not %v, %v", x, order, l, got, e, want, no)
		}
	}
	if !slices.Equal(l, was) {
		t.Fatalf("Kept or Insert has changed the slots %v", was)
	}
}

// letters are slots of which the lists of these tests consist: also some that are
// not Valid but have something in E, and some with an entry that is not valid.
var letters = "- ~0 e e:2 0 0:2 00 1 10/1 0:256 0/-1"

// shapes are the entries of the steps of these tests.
var shapes = strings.Fields("e e:2 0 0:3 00:2 1:255 10/1 1/0 0/-1 0:0 0:256")

// each is steps of every kind with every shape.
func each(kinds ...int) []diff.Step {
	var l []diff.Step
	for _, kind := range kinds {
		for _, x := range shapes {
			l = append(l, diff.Step{Kind: kind, E: shaped(x)})
		}
	}
	return l
}

func TestOrder(t *testing.T) { // P14.1
	if plan.Lengths != 0 || plan.Chains != 1 {
		t.Error("the numbers of the orders")
	}
	for _, n := range append(strange, 2) {
		if plan.Order(n) {
			t.Errorf("Order(%d)", n)
		}
	}
	if !plan.Order(0) || !plan.Order(1) {
		t.Error("Order of those that are")
	}
}

// TestNoOrder has numbers that are not an order, with slots and steps for which
// there is nothing else to object to, and with others.
func TestNoOrder(t *testing.T) { // P14.1
	for _, n := range append(strange, 2) {
		for _, text := range []string{"", "-", "0 - e", "e - 0", "0 e", "e 0", "0 0 0"} {
			l := slots(text)
			if plan.Kept(n, l) {
				t.Errorf("Kept of the order %d of %s", n, text)
			}
			for _, x := range shapes {
				if w, e := plan.Insert(n, l, shaped(x)); len(w) != 0 || e != api.ErrBad {
					t.Errorf("Insert of %s in the order %d into %s: %v, %v", x, n, text, w, e)
				}
			}
			for _, s := range each(-1, 0, 1, 2, 3) {
				checkOne(t, n, l, s)
				checkAll(t, n, l, []diff.Step{s})
			}
			if w, e := plan.All(n, l, nil); len(w) != 0 || e != api.OK {
				t.Errorf("All of no steps in the order %d of %s: %v, %v", n, text, w, e)
			}
		}
	}
}

// TestNoKind has numbers that are not the kind of a step, with slots and entries
// for which there is nothing else to object to, and with others.
func TestNoKind(t *testing.T) { // P14.1
	for _, kind := range strange {
		for _, order := range orders {
			for _, text := range []string{"", "-", "0 - e", "e - 0", "0 e", "e 0", "0 0 0"} {
				for _, s := range each(kind) {
					checkOne(t, order, slots(text), s)
					checkAll(t, order, slots(text), []diff.Step{s})
					checkAll(t, order, slots(text), []diff.Step{{Kind: 1, E: shaped("1")}, s, step("+0:0")})
				}
			}
		}
	}
}

// TestInserts has all lists of up to four slots.
func TestInserts(t *testing.T) { // P14.1
	var xs []entry.Entry
	for _, x := range shapes {
		xs = append(xs, shaped(x))
	}
	lists(slots(letters), 4, func(l []bank.Slot) {
		for _, order := range orders {
			checkInsert(t, order, l, xs)
		}
	})
}

// TestOnes has all lists of up to four slots.
func TestOnes(t *testing.T) { // P14.1
	every := each(0, 1, 2, 3, -1)
	lists(slots(letters), 4, func(l []bank.Slot) {
		for _, s := range every {
			for _, order := range orders {
				checkOne(t, order, l, s)
			}
		}
	})
}

// TestAlls has all lists of up to three slots, and of up to two steps, and those
// of three steps with two slots.
func TestAlls(t *testing.T) { // P14.1
	every := steps("+e +0:2 +00 +0:0 =e:2 =0 =0:2 =1 =1:0 xe x0:9 x00 x1:256")
	lists(slots("- ~0 e e:2 0 0:2 00 0:256"), 3, func(l []bank.Slot) {
		most := 2
		if len(l) == 2 {
			most = 3
		}
		lists(every, most, func(s []diff.Step) {
			for _, order := range orders {
				checkAll(t, order, l, s)
			}
		})
	})
}

// TestTwins has all lists of up to five slots.
func TestTwins(t *testing.T) { // P14.2
	lists(slots("- ~0 0 0:2 0/2 0./1 1 0:256"), 5, func(l []bank.Slot) { checkTwins(t, l) })
	lists(slots(letters), 4, func(l []bank.Slot) { checkTwins(t, l) })
}

// TestByHand has writes that are written out, whatever the definitions in these
// tests say, in both orders.
func TestByHand(t *testing.T) { // P14.1
	for _, c := range []struct{ name, slots, steps, lengths, chains string }{
		{"nothing", "", "", "", ""},
		{"no step", "0 - e", "", "", ""},
		{"nothing to set or drop", "", "=0 x0", "", ""},
		{"an Add", "- 0 -", "+00:2", "0=00:2", "0=00:2"},
		{"an Add before others", "0 1 - -", "+00:2", "2=0 0=00:2", "2=0 0=00:2"},
		{"an Add that goes past others", "0 11 10 -", "+00:2", "no", "3=0 0=00:2"},
		{"an Add that may stand behind others", "0 11 10 -", "+1:2", "no", "3=1:2"},
		{"an Add of what is there", "0 - -", "+0:2", "1=0:2", "1=0:2"},
		{"an Add of the same", "0:2 - -", "+0:2", "1=0:2", "1=0:2"},
		{"a Set", "0 - e", "=0:2", "0=0:2", "0=0:2"},
		{"a Set of several", "0 - 0:2 1 0:3 0 e", "=0:3", "0=0:3 2=0:3 5=0:3", "0=0:3 2=0:3 5=0:3"},
		{"a Set of what is so", "0 - 0 e", "=0", "", ""},
		{"a Set of what is not there", "0 - e", "=00:2", "", ""},
		{"a Set of the same word with another Len", "0 0/0", "=0/0:2", "1=0/0:2", "1=0/0:2"},
		{"a Set of the same bits, some of them free", "00 0./2 0", "=0./2:2", "1=0./2:2", "1=0./2:2"},
		{"a Set in full slots", "0 e", "=e:2", "1=e:2", "1=e:2"},
		{"a Set out of order", "e 0", "=0:2", "1=0:2", "1=0:2"},
		{"a Set of what is not Valid", "~0 ~0:2 -", "=0:2", "", ""},
		{"a Drop", "0 - e", "x0", "0=-", "0=-"},
		{"a Drop of several", "0 - 0:2 1 0:3 0 e", "x0", "0=- 2=- 4=- 5=-", "0=- 2=- 4=- 5=-"},
		{"a Drop with another action", "0 - e", "x0:9", "0=-", "0=-"},
		{"a Drop of what is not there", "0 - e", "x00", "", ""},
		{"a Drop of the same word with another Len", "0 0/0", "x0/0", "1=-", "1=-"},
		{"a Drop out of order", "e 0", "x0", "1=-", "1=-"},
		{"a Drop of what is not Valid", "~0 ~0:2 -", "x0", "", ""},
		{"an Add and a Set of it", "- e", "+0 =0:2", "0=0 0=0:2", "0=0 0=0:2"},
		{"an Add twice and a Set of both", "- - e", "+0 +0 =0:2", "0=0 1=0 0=0:2 1=0:2", "0=0 1=0 0=0:2 1=0:2"},
		{"an Add and a Drop of it", "- e", "+0 x0", "0=0 0=-", "0=0 0=-"},
		{"a Drop and an Add in its place", "0 e", "x0 +1:2", "0=- 0=1:2", "0=- 0=1:2"},
		{"a Drop, and nothing to set", "0 e", "x0 =0:2", "0=-", "0=-"},
		{"a Drop twice", "0 e", "x0 x0", "0=-", "0=-"},
		{"a Set there and back", "0 e", "=0:2 =0", "0=0:2 0=0", "0=0:2 0=0"},
		{"a Set twice", "0 e", "=0:2 =0:2", "0=0:2", "0=0:2"},
		{"a move of what is set later", "e -", "+0 =e:2", "1=e 0=0 1=e:2", "1=e 0=0 1=e:2"},
		{"a move of what was set", "e -", "=e:2 +0", "0=e:2 1=e:2 0=0", "0=e:2 1=e:2 0=0"},
		{"a move of what is dropped later", "e -", "+0 xe", "1=e 0=0 1=-", "1=e 0=0 1=-"},
		{"a Drop that puts slots in order", "e 0 e", "xe +1:2", "0=- 2=- 0=1:2", "0=- 2=- 0=1:2"},
		{"a Drop that makes room", "00 0 e", "x00 +01:2", "0=- 0=01:2", "0=- 0=01:2"},
		{"a free slot from below and one from above", "- 00 e -", "+0", "3=e 2=0", "3=e 2=0"},
	} {
		for i, want := range []string{c.lengths, c.chains} {
			got, e := plan.All(orders[i], slots(c.slots), steps(c.steps))
			if want == "no" {
				if e != api.ErrOrder || len(got) != 0 {
					t.Errorf("%s, order %d: %v, %v", c.name, i, got, e)
				}
				continue
			}
			if e != api.OK || !slices.Equal(got, writes(want)) {
				t.Errorf("%s, order %d: %v, %v, not %s", c.name, i, got, e, want)
			}
		}
	}
}

// TestTwinsByHand has writes that are written out, whatever the definitions in
// these tests say.
func TestTwinsByHand(t *testing.T) { // P14.2
	for _, c := range []struct{ slots, want string }{
		{"", ""},
		{"-", ""},
		{"- - -", ""},
		{"0", ""},
		{"0 1 e 00", ""},
		{"0 0", "1=-"},
		{"0 0:2", "1=-"},
		{"0:2 0", "1=-"},
		{"0 - 0 - 0", "2=- 4=-"},
		{"0 1 0 1 0", "2=- 3=- 4=-"},
		{"1 0 0 1", "2=- 3=-"},
		{"e e:2 0 e 0:3", "1=- 3=- 4=-"},
		{"0 0/2 .0/1 .0 00", ""},
		{"0 0./1:2 0./2", "1=-"},
		{"0/2 0/2:3 0", "1=-"},
		{"0 ~0 0", "2=-"},
		{"~0 0", ""},
		{"~0 ~0", ""},
		{"0 ~0", ""},
		{"~0 0 ~0 0 -", "3=-"},
		{"0:256 0/-1 0 0/-1:0", "2=- 3=-"},
		{"- e e", "2=-"},
	} {
		if got := plan.Twins(slots(c.slots)); !slices.Equal(got, writes(c.want)) {
			t.Errorf("Twins of %s: %v, not %s", c.slots, got, c.want)
		}
	}
}

// bad are entries that are not valid.
func bad() []entry.Entry {
	w := word.Of(prefix.Make(addr.Addr{7 << 56, 0}, 8))
	l := []entry.Entry{
		{},
		{W: w, Len: 8},
		{W: word.Word{Value: addr.Addr{0, 1}}, Len: 8, Action: 1},
		{W: word.Word{Value: addr.Addr{1 << 63, 0}, Mask: addr.Addr{1, 1}}, Len: 8, Action: 1},
	}
	for _, n := range append(strange, -129, 129, 256+8, 1<<32+8) {
		if n < 0 || n > 128 {
			l = append(l, entry.Entry{W: w, Len: n, Action: 1})
		}
		if n < 1 || n > 255 {
			l = append(l, entry.Entry{W: w, Len: 8, Action: n})
		}
	}
	return l
}

// TestBadEntries has steps of each kind with entries that are not valid, in slots
// that have them, or have no room, or are out of order.
func TestBadEntries(t *testing.T) { // P14.1
	for _, x := range bad() {
		for _, l := range [][]bank.Slot{nil, {{}}, {full(x)}, {full(x), {}}, {{}, full(x), full(x)}, slots("e 0 -"), slots("e 0"), slots("0 e")} {
			for _, order := range orders {
				for kind := range 3 {
					s := diff.Step{Kind: kind, E: x}
					if w, e := plan.One(order, l, s); len(w) != 0 || e != api.ErrBad {
						t.Errorf("One of %v in %v: %v, %v", s, l, w, e)
					}
					if w, e := plan.All(order, l, []diff.Step{step("=00"), s}); len(w) != 0 || e != api.ErrBad {
						t.Errorf("All of %v in %v: %v, %v", s, l, w, e)
					}
				}
				if w, e := plan.Insert(order, l, x); len(w) != 0 || e != api.ErrBad {
					t.Errorf("Insert of %v into %v: %v, %v", x, l, w, e)
				}
			}
		}
	}
}

// TestErrors has steps that lead to an error after others that do not: it is that
// of the first one that has one, and there are no writes beside it.
func TestErrors(t *testing.T) { // P14.1
	for _, c := range []struct {
		slots, steps string
		lengths      api.Errno
		chains       api.Errno
	}{
		{"", "+0", api.ErrFull, api.ErrFull},
		{"0", "+0", api.ErrFull, api.ErrFull},
		{"- -", "+0 +1 +00", api.ErrFull, api.ErrFull},
		{"- -", "+0 +1 +00 x0", api.ErrFull, api.ErrFull},
		{"- -", "+0 +1 x0 +00", api.OK, api.OK},
		{"- -", "+0 +1 x00 +00", api.ErrFull, api.ErrFull},
		{"- -", "+0 +1 =0:2 +00 +0:0", api.ErrFull, api.ErrFull},
		{"- -", "+0 +1:0 +00 +01", api.ErrBad, api.ErrBad},
		{"0 00 -", "+1", api.ErrOrder, api.ErrOrder},
		{"0 11 -", "+1", api.ErrOrder, api.OK},
		{"0 00", "+1", api.ErrOrder, api.ErrOrder},
		{"0 00 -", "=0:2 +1", api.ErrOrder, api.ErrOrder},
		{"0 00 -", "x0 +1", api.OK, api.OK},
		{"0 00 -", "=0:2 =00:2 x1 x1", api.OK, api.OK},
		{"0 00 -", "+1 +0:0", api.ErrOrder, api.ErrOrder},
		{"0 00 -", "+1:0 +1", api.ErrBad, api.ErrBad},
		{"0 00 -", "=1:0 +1", api.ErrBad, api.ErrBad},
		{"0 00 -", "x1:0 +1", api.ErrBad, api.ErrBad},
		{"0 11", "+1", api.ErrOrder, api.ErrFull},
		{"0 11", "x11 +1", api.OK, api.OK},
		{"1./1 - 0./3", "+../2", api.ErrOrder, api.ErrOrder},
		{"0./3 - 1./1", "+../2", api.OK, api.OK},
		{"0 e", "=0:2 =e:2", api.OK, api.OK},
		{"0 e", "=0:2 =e:256", api.ErrBad, api.ErrBad},
		{"0 e", "x0 xe x0:-1", api.ErrBad, api.ErrBad},
	} {
		for i, want := range []api.Errno{c.lengths, c.chains} {
			w, e := plan.All(orders[i], slots(c.slots), steps(c.steps))
			if e != want || e != api.OK && len(w) != 0 {
				t.Errorf("All of %s in the order %d of %s: %v, %v, not %v", c.steps, i, c.slots, w, e, want)
			}
		}
	}
}

// TestBadSlots has entries in slots that are not valid: they are copied as they
// are, but such a write changes nothing, so that the slot that was to become
// another one is the same for the next step.
func TestBadSlots(t *testing.T) { // P14.1
	for _, order := range orders {
		l := slots("0:256 -")
		w, e := plan.All(order, l, steps("+00:2 +00:3 =0:7"))
		want := writes("1=0:256 0=00:2 1=00:3")
		if e != api.OK || !slices.Equal(w, want) {
			t.Errorf("All in the order %d with an entry that is not valid: %v, %v, not %v", order, w, e, want)
		}
		w, e = plan.One(order, l, step("=0:2"))
		if e != api.OK || !slices.Equal(w, writes("0=0:2")) {
			t.Errorf("a Set in the order %d of an entry that is not valid: %v, %v", order, w, e)
		}
		w, e = plan.All(order, l, steps("x0 x0 =0:2 +0"))
		if e != api.OK || !slices.Equal(w, writes("0=- 0=0")) {
			t.Errorf("a Drop in the order %d of an entry that is not valid: %v, %v", order, w, e)
		}
	}
}

// TestEachBit has entries that are not alike for a single bit of the word, or of
// the Len, or are for all that the bits of the Action tell.
func TestEachBit(t *testing.T) { // P14.1, P14.2
	x := entry.Entry{W: word.Word{Value: addr.Addr{5, 5}, Mask: addr.Addr{math.MaxUint64, math.MaxUint64}}, Len: 8, Action: 1}
	check := func(y entry.Entry, same bool) {
		t.Helper()
		l := []bank.Slot{{}, full(y), full(x), {}, full(x)}
		want := writes("4=-")
		if same {
			want = writes("2=- 4=-")
		}
		if w := plan.Twins(l); !slices.Equal(w, want) {
			t.Errorf("Twins of %v: %v", l, w)
		}
		for kind := range 3 {
			checkOne(t, 0, l, diff.Step{Kind: kind, E: x})
			checkOne(t, 1, l, diff.Step{Kind: kind, E: y})
		}
	}
	for k := range 128 {
		y := x
		y.W.Value = addr.With(y.W.Value, k, !addr.Bit(y.W.Value, k))
		check(y, false)
		y = x
		y.W.Mask = addr.With(y.W.Mask, k, false)
		check(y, false)
	}
	for k := range 64 {
		y := x
		y.Len ^= 1 << k
		check(y, false)
		y = x
		y.Action ^= 1 << k
		check(y, true)
	}
}

// some is an entry without a pattern: a prefix of up to so many bits, or a word of
// as many, with free ones among them, and a Len that does not follow from it.
func some(next func(below int) int, most int, loose bool) entry.Entry {
	if !loose {
		return entry.Of(prefix.Make(addr.Addr{uint64(next(1<<most)) << (64 - most), 0}, next(most+1)), 1+next(3))
	}
	text := ""
	for range most {
		text += string("01."[next(3)])
	}
	x := shaped(text)
	x.Len, x.Action = next(2*most), 1+next(3)
	return x
}

// simple is a list without a pattern in which no two entries of one Len match the
// same address.
func simple(next func(below int) int, tries, most int, loose bool) []entry.Entry {
	var l []entry.Entry
	for range tries {
		x := some(next, most, loose)
		if !slices.ContainsFunc(l, func(y entry.Entry) bool { return x.Len == y.Len && meets(x.W, y.W) }) {
			l = append(l, x)
		}
	}
	return l
}

// kin is a list that has some of another one, some of it with other actions, and
// entries of its own.
func kin(next func(below int) int, old []entry.Entry, tries, most int, loose bool) []entry.Entry {
	var l []entry.Entry
	for _, x := range old {
		if next(3) > 0 {
			x.Action = 1 + (x.Action+next(2))%3
			l = append(l, x)
		}
	}
	for _, x := range simple(next, tries, most, loose) {
		if !slices.ContainsFunc(l, func(y entry.Entry) bool { return x.Len == y.Len && meets(x.W, y.W) }) {
			l = append(l, x)
		}
	}
	for i := range l {
		j := next(i + 1)
		l[i], l[j] = l[j], l[i]
	}
	return l
}

// placed are slots that keep an order and have no pattern else, with so many of a
// list and some that are not Valid.
func placed(next func(below int) int, order int, l []entry.Entry, free int) []bank.Slot {
	left := slices.Clone(l)
	var made []bank.Slot
	for len(left)+free > 0 {
		k := next(len(left) + free)
		if k >= len(left) {
			free--
			made = append(made, bank.Slot{})
			continue
		}
		for i := 0; i < len(left); i++ {
			if before(order, left[i], left[k]) {
				k, i = i, -1
			}
		}
		made = append(made, full(left[k]))
		left = slices.Delete(left, k, k+1)
	}
	return made
}

// tell is what slots do with an address: the action of the first one that matches.
func tell(l []bank.Slot, a addr.Addr) int {
	for k := range l {
		if l[k].Valid && word.Match(l[k].E.W, a) {
			return l[k].E.Action
		}
	}
	return 0
}

// best is what a list of entries does with an address: the action of the longest
// one that matches.
func best(l []entry.Entry, a addr.Addr) int {
	longest, action := -1, 0
	for _, x := range l {
		if x.Len > longest && word.Match(x.W, a) {
			longest, action = x.Len, x.Action
		}
	}
	return action
}

// addresses are all that differ in so many bits.
func addresses(bits int) []addr.Addr {
	var l []addr.Addr
	for v := range 1 << bits {
		l = append(l, addr.Addr{uint64(v)<<(64-bits) | 1, 7})
	}
	return l
}

// checkOnTheWay makes the writes from one list to another one at a time, and
// returns the slots of the end.
func checkOnTheWay(t *testing.T, order int, l []bank.Slot, w []bank.Write, old, new []entry.Entry, bits int) []bank.Slot {
	t.Helper()
	after := slices.Clone(l)
	for i, m := range w {
		if !bank.May(m, len(l)) {
			t.Fatalf("write %d of %v to %v may not be", i, w, l)
		}
		after[m.At] = m.S
		if !kept(order, after) {
			t.Fatalf("after write %d of %v to %v, the order %d is not kept", i, w, l, order)
		}
		for _, a := range addresses(bits) {
			if got := tell(after, a); got != best(old, a) && got != best(new, a) {
				t.Fatalf("after write %d of %v to %v, %v has the action %d", i, w, l, a, got)
			}
		}
	}
	for _, a := range addresses(bits) {
		if got := tell(after, a); got != best(new, a) {
			t.Fatalf("after all of %v to %v, %v has the action %d", w, l, a, got)
		}
	}
	if got := entry.Sort(bank.Entries(after)); !slices.Equal(got, entry.Sort(new)) {
		t.Fatalf("%v to %v lead to %v, not %v", w, l, got, new)
	}
	return after
}

// TestOnTheWay goes from one Simple list to another, and from that to a third one.
// It takes as many free slots as there are entries to be added, as those to be
// dropped are so in the end.
func TestOnTheWay(t *testing.T) { // P14.3
	next := sequence(1)
	for i := range 3000 {
		order, most, loose := i%2, 2+next(4), i%4 == 0
		old := simple(next, next(20), most, loose)
		l := placed(next, order, old, next(10))
		for range 2 {
			new := kin(next, old, next(15), most, loose)
			way := diff.Steps(old, new)
			w, e := plan.All(order, l, way)
			checkAll(t, order, l, way)
			if room := diff.Count(way)[diff.Add] <= bank.Free(l); room != (e == api.OK) || !room && (e != api.ErrFull || len(w) != 0) {
				t.Fatalf("All of %v in the order %d of %v: %v, %v", way, order, l, w, e)
			}
			if e == api.OK {
				l, old = checkOnTheWay(t, order, l, w, old, new, most), new
			}
		}
	}
}

// TestWordsInChains has words that are not prefixes, in the order of chains: there
// may be no place for one, but where there is one, all else holds.
func TestWordsInChains(t *testing.T) { // P14.3
	next := sequence(2)
	no := map[api.Errno]int{}
	for range 2000 {
		most := 2 + next(3)
		old := simple(next, next(15), most, true)
		l := placed(next, 1, old, next(10))
		new := kin(next, old, next(15), most, true)
		w, e := plan.All(1, l, diff.Steps(old, new))
		checkAll(t, 1, l, diff.Steps(old, new))
		no[e]++
		if e == api.OK {
			checkOnTheWay(t, 1, l, w, old, new, most)
		}
	}
	if no[api.OK] < 500 || no[api.ErrFull] < 100 || len(no) > 3 {
		t.Errorf("words in the order of chains: %v", no)
	}
}

// TestAllPairs has all pairs of lists with up to three different prefixes of up to
// two bits, in slots of which none, one or two are free.
func TestAllPairs(t *testing.T) { // P14.3
	next := sequence(3)
	var sets [][]entry.Entry
	for set := range 1 << 7 {
		var l []entry.Entry
		for i, text := range strings.Fields("e 0 1 00 01 10 11") {
			if set>>i&1 == 1 {
				l = append(l, shaped(text))
			}
		}
		if len(l) < 4 {
			sets = append(sets, l)
		}
	}
	for i, old := range sets {
		for j, new := range sets {
			new = slices.Clone(new)
			for k := range new {
				new[k].Action = 1 + (i+j+k)%3
			}
			for _, order := range orders {
				l := placed(next, order, old, (i+j)%3)
				w, e := plan.All(order, l, diff.Steps(old, new))
				if e == api.OK {
					checkOnTheWay(t, order, l, w, old, new, 2)
				}
				if room := diff.Count(diff.Steps(old, new))[diff.Add] <= bank.Free(l); room != (e == api.OK) || !room && e != api.ErrFull {
					t.Fatalf("from %v to %v in the order %d: %v, %v", old, new, order, w, e)
				}
			}
		}
	}
}

// TestAnySteps has steps that lead from no list to another one, also in slots with
// entries that are alike: the order is kept after each write.
func TestAnySteps(t *testing.T) { // P14.1, P14.3
	next := sequence(4)
	for i := range 2000 {
		order, most, loose := i%2, 1+next(4), i%4 == 0
		var old []entry.Entry
		for range next(20) {
			old = append(old, some(next, most, loose))
		}
		l := placed(next, order, old, next(12))
		var way []diff.Step
		for range next(12) {
			s := diff.Step{Kind: next(3), E: some(next, most, loose)}
			if len(old) > 0 && next(2) == 0 {
				s.E = old[next(len(old))]
				s.E.Action = 1 + next(3)
			}
			way = append(way, s)
		}
		checkAll(t, order, l, way)
		w, e := plan.All(order, l, way)
		for e == api.ErrFull && len(w) == 0 && len(way) > 0 {
			way = way[:len(way)-1]
			w, e = plan.All(order, l, way)
		}
		if e != api.OK {
			t.Fatalf("All of %v in the order %d of %v: %v", way, order, l, e)
		}
		after := slices.Clone(l)
		for i, m := range w {
			after[m.At] = m.S
			if !kept(order, after) || !plan.Kept(order, after) {
				t.Fatalf("after write %d of %v to %v, the order %d is not kept", i, w, l, order)
			}
		}
		now := old
		for _, s := range way {
			now = diff.Do(now, s)
		}
		if got := entry.Sort(bank.Entries(after)); !slices.Equal(got, entry.Sort(now)) {
			t.Fatalf("%v to %v lead to %v, not %v", way, l, got, now)
		}
	}
}

// TestTwinsOnTheWay has slots with entries that are alike, as a move that was not
// finished leaves them: no address is looked up otherwise after any write.
func TestTwinsOnTheWay(t *testing.T) { // P14.2, P14.3
	next := sequence(5)
	for i := range 1000 {
		order, most, loose := i%2, 1+next(4), i%4 == 0
		var old []entry.Entry
		for range next(25) {
			old = append(old, some(next, most, loose))
		}
		l := placed(next, order, old, next(6))
		checkTwins(t, l)
		after := slices.Clone(l)
		for i, m := range plan.Twins(l) {
			after[m.At] = m.S
			if !kept(order, after) {
				t.Fatalf("after twin %d of %v, the order %d is not kept", i, l, order)
			}
			for _, a := range addresses(most) {
				if tell(after, a) != tell(l, a) {
					t.Fatalf("after twin %d of %v, %v has another action", i, l, a)
				}
			}
		}
		if got := bank.Entries(after); !slices.Equal(got, diff.Once(bank.Entries(l))) {
			t.Fatalf("the twins of %v leave %v", l, got)
		}
	}
}

// TestFull goes up to a full bank and back in both orders.
func TestFull(t *testing.T) { // P14.1, P14.3
	for _, order := range orders {
		var xs []entry.Entry
		for k := range api.MaxSlots {
			xs = append(xs, entry.Of(prefix.Make(addr.Addr{uint64(k*37%256) << 56, 0}, 8), 1+k%255))
		}
		l := make([]bank.Slot, api.MaxSlots)
		up := diff.Steps(nil, xs)
		w, e := plan.All(order, l, up)
		if e != api.OK || len(w) != api.MaxSlots {
			t.Fatalf("All of a full bank in the order %d: %d writes, %v", order, len(w), e)
		}
		l = applied(l, w)
		more := append(up, step("+e"))
		if w, e := plan.All(order, make([]bank.Slot, api.MaxSlots), more); len(w) != 0 || e != api.ErrFull {
			t.Fatalf("All of one more in the order %d: %v, %v", order, w, e)
		}
		if w, e := plan.One(order, l, step("+e")); len(w) != 0 || e != api.ErrFull {
			t.Fatalf("One of one more in the order %d: %v, %v", order, w, e)
		}
		w, e = plan.All(order, l, diff.Steps(xs, nil))
		if e != api.OK || len(w) != api.MaxSlots || bank.Free(applied(l, w)) != api.MaxSlots {
			t.Fatalf("All of the way back in the order %d: %d writes, %v", order, len(w), e)
		}
	}
}

// shares calls f, which returns writes, and changes them and the memory behind
// them: this may change neither what it returns next nor, as told by same, an
// argument.
func shares(f func() []bank.Write, same func() bool) bool {
	first, second := f(), f()
	was := slices.Clone(second)
	clear(first[:cap(first)])
	if !slices.Equal(second, was) || !same() {
		return true
	}
	return !slices.Equal(f(), was)
}

// TestMemory has slots and steps with spare memory, which no call may touch, and
// changes what was returned, which may change nothing else.
func TestMemory(t *testing.T) { // P14.1, P14.2
	next := sequence(6)
	for i := range 400 {
		order, most := i%2, 1+next(4)
		var xs []entry.Entry
		for range 1 + next(20) {
			xs = append(xs, some(next, most, false))
		}
		spare := placed(next, order, xs, 3+next(12))
		l := spare[:len(spare)-2]
		more := []diff.Step{{Kind: 0, E: xs[0]}, {Kind: 1, E: xs[0]}, {Kind: 2, E: some(next, most, false)}, {Kind: 0, E: xs[len(xs)/2]}, {Kind: 1}}
		more[1].E.Action = 9
		way := more[:4]
		were, was := slices.Clone(spare), slices.Clone(more)
		same := func() bool { return slices.Equal(spare, were) && slices.Equal(more, was) }
		for name, f := range map[string]func() []bank.Write{
			"Insert": func() []bank.Write { w, _ := plan.Insert(order, l, xs[0]); return w },
			"Add":    func() []bank.Write { w, _ := plan.One(order, l, way[0]); return w },
			"Set":    func() []bank.Write { w, _ := plan.One(order, l, way[1]); return w },
			"Drop":   func() []bank.Write { w, _ := plan.One(order, l, way[2]); return w },
			"All":    func() []bank.Write { w, _ := plan.All(order, l, way); return w },
			"one":    func() []bank.Write { w, _ := plan.All(order, l, way[:1]); return w },
			"Twins":  func() []bank.Write { return plan.Twins(l) },
		} {
			if shares(f, same) {
				t.Fatalf("%s in the order %d of %v shares memory", name, order, l)
			}
		}
		w, e := plan.All(order, l, way)
		exact, no := plan.All(order, slices.Clip(slices.Clone(l)), slices.Clip(slices.Clone(way)))
		if e != no || !slices.Equal(w, exact) {
			t.Fatalf("All of %v in the order %d of %v depends on the memory behind", way, order, l)
		}
		kept := slices.Clone(w)
		clear(spare)
		clear(more)
		if !slices.Equal(w, kept) {
			t.Fatalf("All of %v in the order %d shares memory with its arguments", way, order)
		}
	}
}

// TestNone has nil and empty lists, which are equivalent, and slots none of which
// is Valid.
func TestNone(t *testing.T) { // P14.1, P14.2
	for _, order := range orders {
		for _, l := range [][]bank.Slot{nil, {}, make([]bank.Slot, 0, 9), slots("0 e")[:0]} {
			if !plan.Kept(order, l) || len(plan.Twins(l)) != 0 {
				t.Errorf("Kept in the order %d or Twins of no slots", order)
			}
			for _, way := range [][]diff.Step{nil, {}, steps("+0 +1")[:0]} {
				if w, e := plan.All(order, l, way); len(w) != 0 || e != api.OK {
					t.Errorf("All of no steps in the order %d of no slots: %v, %v", order, w, e)
				}
			}
			for kind, want := range []api.Errno{api.ErrFull, api.OK, api.OK, api.ErrBad} {
				if w, e := plan.One(order, l, diff.Step{Kind: kind, E: shaped("0")}); len(w) != 0 || e != want {
					t.Errorf("One of the kind %d in the order %d of no slots: %v, %v", kind, order, w, e)
				}
			}
			if w, e := plan.Insert(order, l, shaped("0")); len(w) != 0 || e != api.ErrFull {
				t.Errorf("Insert in the order %d into no slots: %v, %v", order, w, e)
			}
		}
		l := make([]bank.Slot, 300)
		if w, e := plan.All(order, l, steps("=e xe =e:2")); len(w) != 0 || e != api.OK || len(plan.Twins(l)) != 0 {
			t.Errorf("All in the order %d, or Twins, of empty slots: %v, %v", order, w, e)
		}
	}
}

// TestLongLists have far more slots and steps than a bank has.
func TestLongLists(t *testing.T) { // P14.1, P14.2
	const many = 200_000
	same := slices.Repeat(slots("0"), many)
	if w := plan.Twins(same); len(w) != many-1 || w[0] != (bank.Write{At: 1}) || w[many-2] != (bank.Write{At: many - 1}) {
		t.Errorf("Twins of a long list: %d", len(w))
	}
	var apart []bank.Slot
	for k := range 10_000 {
		apart = append(apart, full(entry.Of(prefix.Make(addr.Addr{uint64(k) << 32, 0}, 32), 1)))
	}
	if w := plan.Twins(apart); len(w) != 0 {
		t.Errorf("Twins of a long list that has none: %d", len(w))
	}
	if w := plan.Twins(slices.Concat(apart, apart)); len(w) != len(apart) || w[0] != (bank.Write{At: len(apart)}) {
		t.Errorf("Twins of a list twice: %d", len(w))
	}
	for _, order := range orders {
		w, e := plan.All(order, same, steps("=0:2 =0:2 x0 x0 +0:3"))
		if e != api.OK || len(w) != 2*many+1 || w[many-1] != (bank.Write{At: many - 1, S: drawn("0:2")}) || w[2*many] != (bank.Write{S: drawn("0:3")}) {
			t.Errorf("All of a long list in the order %d: %d, %v", order, len(w), e)
		}
		w, e = plan.All(order, slots("0 - e"), slices.Repeat(steps("=0:2 +1 x1 =0"), many))
		if e != api.OK || len(w) != 4*many {
			t.Errorf("All of many steps in the order %d: %d, %v", order, len(w), e)
		}
	}
}

func TestExample(t *testing.T) { // example 1
	l := slots("- 0 e 1 0 -")
	for _, order := range orders {
		if w, e := plan.One(order, l, step("x0")); e != api.OK || !slices.Equal(w, writes("1=- 4=-")) {
			t.Errorf("the example in the order %d: %v, %v", order, w, e)
		}
	}
}

// TestThreeSlots is the first example of the whole document, as far as this layer
// goes.
func TestThreeSlots(t *testing.T) { // P14.1, P14.3
	of := func(a uint64, n, action int) entry.Entry {
		return entry.Of(prefix.Make(addr.Addr{a << 32, 0}, n), action)
	}
	xs := []entry.Entry{of(0, 0, 1), of(0x0a000000, 8, 2), of(0x0a010000, 16, 3)}
	for _, order := range orders {
		l := make([]bank.Slot, 3)
		for i := range xs {
			w, e := plan.All(order, l, diff.Steps(xs[:i], xs[:i+1]))
			if len(w) != i+1 || e != api.OK {
				t.Errorf("entry %d in the order %d: %v, %v", i, order, w, e)
			}
			l = bank.Apply(l, w)
		}
		if !slices.Equal(l, []bank.Slot{full(xs[2]), full(xs[1]), full(xs[0])}) {
			t.Errorf("the slots in the order %d: %v", order, l)
		}
	}
}
