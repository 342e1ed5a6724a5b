package plo_test

import (
	"fmt"
	"math"
	"slices"
	"strings"
	"testing"

	"pigeonhole/addr"
	"pigeonhole/api"
	"pigeonhole/bank"
	"pigeonhole/entry"
	"pigeonhole/plo"
	"pigeonhole/prefix"
	"pigeonhole/word"
)

// vacant stands for a slot that is not Valid in a list of Lens. Slots are held
// against such lists, in which each Valid slot has an entry of its own.
const vacant = -1000

// itself stands for the inserted entry where a write is told by the slot whose
// entry it copies.
const itself = -1

// copying is a write: the slot that is written, and the one that it copies.
type copying struct{ to, from int }

// extremes are Lens at the edges of what an entry can have, and far beyond; some
// of them become others if they are cut to fewer bits or subtracted.
var extremes = []int{
	math.MinInt, math.MinInt + 1, math.MinInt32, -1 << 32, -1<<32 + 8, -256, -129, -128, -2, -1, 0, 1, 2, 7, 8, 9, 31, 32, 63, 64,
	127, 128, 129, 130, 255, 256, 256 + 8, 1000, math.MaxInt32, 1 << 32, 1<<32 + 8, math.MaxInt - 1, math.MaxInt,
}

// sequence makes numbers without a pattern, always the same ones.
func sequence(seed uint64) func(below int) int {
	x := seed
	return func(below int) int {
		x = x*6364136223846793005 + 1442695040888963407
		return int(x >> 33 % uint64(below))
	}
}

// single is a word that matches one address.
func single(a addr.Addr) word.Word { return word.Of(prefix.Make(a, api.V6)) }

// mark is an entry of some Len that no other number has.
func mark(k, n int) entry.Entry {
	return entry.Entry{W: single(addr.Addr{7, uint64(k)}), Len: n, Action: 1 + k%api.MaxAction}
}

// fresh is an entry of some Len that no slot of these tests has.
func fresh(n int) entry.Entry {
	return entry.Entry{W: single(addr.Addr{8, 1}), Len: n, Action: 9}
}

func full(x entry.Entry) bank.Slot { return bank.Slot{Valid: true, E: x} }

// slots have the Lens of a list; those that are not Valid are empty.
func slots(lens []int) []bank.Slot {
	var l []bank.Slot
	for k, n := range lens {
		s := bank.Slot{}
		if n != vacant {
			s = full(mark(k, n))
		}
		l = append(l, s)
	}
	return l
}

// littered have the Lens of a list; those that are not Valid have entries that
// would be out of order.
func littered(lens []int) []bank.Slot {
	l := slots(lens)
	for k, s := range l {
		if !s.Valid {
			l[k].E = mark(k, []int{math.MaxInt, math.MinInt, 0, 128, k}[k%5])
		}
	}
	return l
}

// lists calls f with all lists of up to so many of some numbers.
func lists(from []int, most int, f func(l []int)) {
	var longer func(l []int)
	longer = func(l []int) {
		f(l)
		for _, n := range from {
			if len(l) < most {
				longer(append(slices.Clone(l), n))
			}
		}
	}
	longer(nil)
}

// kept is the chapter's own definition.
func kept(lens []int) bool {
	for j, m := range lens {
		for _, n := range lens[:j] {
			if n != vacant && m != vacant && m > n {
				return false
			}
		}
	}
	return true
}

// gap is the chapter's own definition, for slots that keep the order.
func gap(lens []int, n int) (int, int) {
	last, first := -1, len(lens)
	for k, m := range lens {
		if m != vacant && m > n {
			last = k
		}
	}
	for k := len(lens) - 1; k >= 0; k-- {
		if lens[k] != vacant && lens[k] < n {
			first = k
		}
	}
	return last + 1, first
}

// different is the chapter's own definition of Lengths.
func different(lens []int) int {
	var seen []int
	for _, n := range lens {
		if n != vacant && !slices.Contains(seen, n) {
			seen = append(seen, n)
		}
	}
	return len(seen)
}

// fromBelow is the chapter's own definition of that way, behind a gap that ends
// before a slot.
func fromBelow(lens []int, after int) ([]copying, bool) {
	target := after
	for target < len(lens) && lens[target] != vacant {
		target++
	}
	if target == len(lens) {
		return nil, false
	}
	var c []copying
	for target > after {
		k := after
		for lens[k] != lens[target-1] {
			k++
		}
		c = append(c, copying{target, k})
		target = k
	}
	return append(c, copying{target, itself}), true
}

// fromAbove is the chapter's own definition of that way, before a gap that begins
// at a slot.
func fromAbove(lens []int, first int) ([]copying, bool) {
	target := first - 1
	for target >= 0 && lens[target] != vacant {
		target--
	}
	if target < 0 {
		return nil, false
	}
	var c []copying
	for target < first-1 {
		k := first - 1
		for lens[k] != lens[target+1] {
			k--
		}
		c = append(c, copying{target, k})
		target = k
	}
	return append(c, copying{target, itself}), true
}

// inserted is the chapter's own definition, for slots that keep the order and are
// not all Valid.
func inserted(lens []int, n int) []copying {
	first, after := gap(lens, n)
	for k := first; k < after; k++ {
		if lens[k] == vacant {
			return []copying{{k, itself}}
		}
	}
	below, isBelow := fromBelow(lens, after)
	above, isAbove := fromAbove(lens, first)
	if !isBelow || isAbove && len(above) < len(below) {
		return above
	}
	return below
}

// writes are those that copyings tell.
func writes(l []bank.Slot, c []copying, x entry.Entry) []bank.Write {
	var w []bank.Write
	for _, m := range c {
		s := full(x)
		if m.from != itself {
			s = l[m.from]
		}
		w = append(w, bank.Write{At: m.to, S: s})
	}
	return w
}

// checkGaps holds Kept, Gap and Lengths against the definitions.
func checkGaps(t *testing.T, lens []int, ns []int) {
	t.Helper()
	for _, l := range [][]bank.Slot{slots(lens), littered(lens)} {
		was := slices.Clone(l)
		if got := plo.Kept(l); got != kept(lens) {
			t.Fatalf("Kept of %d: %t", lens, got)
		}
		if got := plo.Lengths(l); got != different(lens) {
			t.Fatalf("Lengths of %d: %d", lens, got)
		}
		for _, n := range ns {
			first, after := 0, 0
			if kept(lens) {
				first, after = gap(lens, n)
			}
			if i, j := plo.Gap(l, n); i != first || j != after {
				t.Fatalf("Gap of %d in %d: %d, %d, not %d, %d", n, lens, i, j, first, after)
			}
		}
		if !slices.Equal(l, was) {
			t.Fatalf("the slots %d were changed", lens)
		}
	}
}

// wantInsert is what Insert of a valid entry returns for slots with some Lens.
func wantInsert(lens []int, l []bank.Slot, x entry.Entry) ([]bank.Write, api.Errno) {
	switch {
	case !kept(lens):
		return nil, api.ErrOrder
	case !slices.Contains(lens, vacant):
		return nil, api.ErrFull
	}
	return writes(l, inserted(lens, x.Len), x), api.OK
}

// checkInsert holds Insert against the definition.
func checkInsert(t *testing.T, lens []int, n int) {
	t.Helper()
	x := fresh(n)
	for _, l := range [][]bank.Slot{slots(lens), littered(lens)} {
		was := slices.Clone(l)
		want, no := wantInsert(lens, l, x)
		got, e := plo.Insert(l, x)
		if e != no || !slices.Equal(got, want) {
			t.Fatalf("Insert of %d into %d: %v, %v, not %v, %v", n, lens, got, e, want, no)
		}
		if !slices.Equal(l, was) {
			t.Fatalf("Insert of %d has changed the slots %d", n, lens)
		}
	}
}

// ordered are the Lens of so many slots that keep the order, without a pattern:
// of some Lens from the greatest one on, with so many slots of a hundred vacant.
func ordered(next func(below int) int, many, least, greatest, gaps int) []int {
	var lens []int
	for range many {
		lens = append(lens, least+next(greatest-least+1))
	}
	slices.Sort(lens)
	slices.Reverse(lens)
	for k := range lens {
		if next(100) < gaps {
			lens[k] = vacant
		}
	}
	return lens
}

// TestAllGaps has all lists of up to six slots with some Lens.
func TestAllGaps(t *testing.T) { // P12.1
	ns := []int{math.MinInt, -1, 0, 1, 7, 8, 9, 15, 16, 17, 128, 129, math.MaxInt}
	lists([]int{vacant, 0, 8, 16}, 6, func(lens []int) { checkGaps(t, lens, ns) })
}

// TestGapsOfExtremes has all lists of two slots with extreme Lens, with or without
// others around them that are not Valid.
func TestGapsOfExtremes(t *testing.T) { // P12.1
	for _, m := range extremes {
		for _, n := range extremes {
			checkGaps(t, []int{m, n}, extremes)
			checkGaps(t, []int{vacant, m, vacant, n, vacant}, extremes)
			checkGaps(t, []int{m, m, n, n}, []int{m, n})
		}
		checkGaps(t, []int{m}, extremes)
	}
}

// TestOneOutOfOrder has long slots in order but for one Len at each place, which
// is too great or too small.
func TestOneOutOfOrder(t *testing.T) { // P12.1
	for k := range 60 {
		for _, by := range []int{-1, 1} {
			var lens []int
			for i := range 60 {
				lens = append(lens, 128-i/2, vacant)
			}
			lens[2*k] += by
			checkGaps(t, lens, []int{128, 110, 100, 80, 0})
			checkInsert(t, lens, 100)
		}
	}
	lens := slices.Repeat([]int{vacant}, 300)
	lens[0], lens[299] = 7, 8
	checkGaps(t, lens, []int{7, 8})
	checkInsert(t, lens, 7)
}

// TestGapsWithoutPattern has slots of all numbers up to that of a bank.
func TestGapsWithoutPattern(t *testing.T) { // P12.1
	next := sequence(1)
	for i := range 600 {
		lens := ordered(next, 1+next(api.MaxSlots), 0, next(129), next(101))
		checkGaps(t, lens, []int{next(129), next(129), 0, 128, lens[next(len(lens))]})
		if i%3 == 0 {
			k := next(len(lens))
			lens[k] = next(129)
			checkGaps(t, lens, []int{next(129)})
		}
	}
}

// TestLengths has each number of different Lens, each of them as often.
func TestLengths(t *testing.T) { // P12.1
	for many := range 130 {
		var lens []int
		for k := range 3 * many {
			lens = append(lens, k%many, vacant)
		}
		if got := plo.Lengths(slots(lens)); got != many {
			t.Errorf("Lengths of %d different ones: %d", many, got)
		}
		if got := plo.Lengths(littered(lens)); got != many {
			t.Errorf("Lengths of %d different ones with litter: %d", many, got)
		}
	}
	if got := plo.Lengths(slots(extremes)); got != len(extremes) {
		t.Errorf("Lengths of the extremes: %d", got)
	}
	for n := range 64 {
		if got := plo.Lengths(slots([]int{5, 5 ^ 1<<n, 5, 5 ^ 1<<n})); got != 2 {
			t.Errorf("Lengths of two that differ in the bit %d: %d", n, got)
		}
	}
}

// TestAllInserts has all lists of up to seven slots with some Lens, those among
// them that are not in order or are full, and entries before, between and behind.
func TestAllInserts(t *testing.T) { // P12.1
	lists([]int{vacant, 8, 16, 24}, 7, func(lens []int) {
		for _, n := range []int{0, 8, 12, 16, 24, 128} {
			if kept(lens) || len(lens) < 5 {
				checkInsert(t, lens, n)
			}
		}
	})
}

// TestInsertsWithoutPattern has slots of all numbers up to that of a bank, many
// of them with few slots that are not Valid.
func TestInsertsWithoutPattern(t *testing.T) { // P12.1
	next := sequence(2)
	for i := range 6000 {
		greatest := next(129)
		lens := ordered(next, 1+next(api.MaxSlots), next(greatest+1), greatest, next(1+i%20))
		if i%2 == 0 {
			lens[next(len(lens))] = vacant
		}
		checkInsert(t, lens, next(129))
		checkInsert(t, lens, greatest)
	}
}

// TestInsertAmongExtremes has entries in slots that are not valid: only their
// Lens count, and they are copied as they are.
func TestInsertAmongExtremes(t *testing.T) { // P12.1
	next := sequence(3)
	for range 3000 {
		var lens []int
		for _, n := range slices.Backward(extremes) {
			for range next(4) {
				lens = append(lens, n)
			}
			if next(12) == 0 {
				lens = append(lens, vacant)
			}
		}
		checkInsert(t, lens, next(129))
	}
	bad := []bank.Slot{
		full(entry.Entry{W: word.Word{Value: addr.Addr{1, 1}}, Len: 9, Action: -5}),
		full(entry.Entry{W: word.Word{Value: addr.Addr{2, 2}}, Len: -7, Action: 1000}),
		{E: entry.Entry{W: word.Word{Value: addr.Addr{3, 3}}, Len: 300, Action: 7}},
	}
	x := fresh(10)
	want := []bank.Write{{At: 2, S: bad[1]}, {At: 1, S: bad[0]}, {At: 0, S: full(x)}}
	if got, e := plo.Insert(bad, x); e != api.OK || !slices.Equal(got, want) {
		t.Errorf("Insert among entries that are not valid: %v, %v", got, e)
	}
}

// TestEachBit has two Lens that differ in one bit, on either side of the gap.
func TestEachBit(t *testing.T) { // P12.1
	for k := range 64 {
		for _, n := range []int{5, -5} {
			m := n ^ 1<<k
			two := []int{max(n, m), min(n, m)}
			checkGaps(t, two, two)
			checkInsert(t, append([]int{vacant}, two...), 0)
			checkInsert(t, append(two, vacant), 128)
		}
	}
}

// TestEachLen inserts an entry of each Len before, between and behind entries of
// all others.
func TestEachLen(t *testing.T) { // P12.1
	for n := range api.V6 + 1 {
		var lens []int
		for m := api.V6; m >= 0; m-- {
			if m != n {
				lens = append(lens, m)
			}
		}
		checkInsert(t, append([]int{vacant}, lens...), n)
		checkInsert(t, append(slices.Clone(lens), vacant), n)
		for k := range len(lens) + 1 {
			checkInsert(t, slices.Insert(slices.Clone(lens), k, vacant), n)
		}
		checkInsert(t, slices.Insert(slices.Clone(lens), 64, vacant, vacant), n)
		checkInsert(t, append([]int{vacant}, append(lens, vacant)...), n)
	}
}

// drawn are Lens that are written as a text, in which a slot that is not Valid is
// a dash.
func drawn(text string) []int {
	var lens []int
	for _, part := range strings.Fields(text) {
		n := vacant
		if part != "-" {
			fmt.Sscan(part, &n)
		}
		lens = append(lens, n)
	}
	return lens
}

// TestByHand has writes that are written out, whatever the definitions in these
// tests say: a write is told by the slot and, unless it is of the entry itself,
// by the slot that is copied to it.
func TestByHand(t *testing.T) { // P12.1
	for _, c := range []struct {
		name, lens string
		n          int
		want       string
	}{
		{"a single slot", "-", 0, "0"},
		{"all slots are empty", "- - -", 128, "0"},
		{"the first one in the gap", "16 - - 8", 12, "1"},
		{"the first one of several, between equal Lens", "16 8 - 8 - 4", 8, "2"},
		{"before equal Lens", "16 - 8 8 -", 8, "1"},
		{"behind equal Lens", "- 16 8 8 -", 8, "4"},
		{"the gap goes before one that is farther", "- 16 8 8 - 4", 8, "4"},
		{"the gap begins at slot 0", "- 8", 8, "0"},
		{"the gap begins at slot 0, for a longer one", "- 8", 9, "0"},
		{"the gap goes up to the end", "8 -", 8, "1"},
		{"the gap goes up to the end, for a shorter one", "8 -", 7, "1"},
		{"from below, one Len", "16 8 8 -", 16, "3<1 1"},
		{"from below, one slot", "8 -", 9, "1<0 0"},
		{"from below, several Lens", "16 8 8 4 2 2 - -", 16, "6<4 4<3 3<1 1"},
		{"from below, the first free slot after the gap", "16 8 - 4 -", 16, "2<1 1"},
		{"from below, an equal Len behind the target stays", "16 8 8 - 8 8 -", 16, "3<1 1"},
		{"from below, the gap is empty", "16 8 4 -", 12, "3<2 2<1 1"},
		{"from above, one Len", "- 16 16 8", 8, "0<2 2"},
		{"from above, one slot", "- 8", 7, "0<1 1"},
		{"from above, several Lens", "- - 24 16 16 12 8 8", 8, "1<2 2<4 4<5 5"},
		{"from above, the last free slot before the gap", "- 24 - 16 8", 8, "2<3 3"},
		{"from above, an equal Len before the target stays", "- 16 16 - 16 16 8", 8, "3<5 5"},
		{"from above, the gap is empty", "- 24 16 8", 12, "0<1 1<2 2"},
		{"from above, no slot after the gap", "- 24 16", 16, "0<1 1"},
		{"equally many, one Len each", "- 16 8 4 -", 8, "4<3 3"},
		{"equally many, two Lens each", "- 24 16 8 4 2 -", 8, "6<5 5<4 4"},
		{"equally many, by Lens and not by slots", "- 16 8 4 4 4 4 -", 8, "7<3 3"},
		{"fewer from above", "- 16 8 4 2 -", 8, "0<1 1"},
		{"fewer from above, though farther", "- 16 16 16 16 8 4 2 -", 8, "0<4 4"},
		{"fewer from below", "- 24 16 8 4 -", 8, "5<4 4"},
		{"fewer from below, though farther", "- 24 16 8 4 4 4 4 -", 8, "8<4 4"},
		{"the gap counts before a way", "- 16 8 - 4 -", 8, "3"},
	} {
		lens := drawn(c.lens)
		l := slots(lens)
		got, e := plo.Insert(l, fresh(c.n))
		if told := tell(l, got); told != c.want || e != api.OK {
			t.Errorf("%s: Insert of %d into %s: %s, %v, not %s", c.name, c.n, c.lens, told, e, c.want)
		}
	}
}

// tell has writes as a text.
func tell(l []bank.Slot, w []bank.Write) string {
	var parts []string
	for _, x := range w {
		part := fmt.Sprint(x.At)
		if k := slices.Index(l, x.S); k >= 0 {
			part += fmt.Sprint("<", k)
		}
		parts = append(parts, part)
	}
	return strings.Join(parts, " ")
}

// TestGapByHand has gaps that are written out, whatever the definitions in these
// tests say.
func TestGapByHand(t *testing.T) { // P12.1
	for _, c := range []struct {
		lens         string
		n            int
		first, after int
	}{
		{"", 8, 0, 0},
		{"-", 8, 0, 1},
		{"- - -", 8, 0, 3},
		{"8", 8, 0, 1},
		{"8", 9, 0, 0},
		{"8", 7, 1, 1},
		{"- 8 -", 9, 0, 1},
		{"- 8 -", 8, 0, 3},
		{"- 8 -", 7, 2, 3},
		{"16 8 8 4", 8, 1, 3},
		{"16 - 8 - 8 - 4", 8, 1, 6},
		{"16 - - 4", 8, 1, 3},
		{"16 4", 8, 1, 1},
		{"16 4", 16, 0, 1},
		{"16 4", 4, 1, 2},
		{"16 4", 3, 2, 2},
		{"16 16 - 16 4 4 - 4", 8, 4, 4},
		{"16 16 - - 4 4 - 4", 8, 2, 4},
		{"8 16", 8, 0, 0},
		{"- - 8 - 16 -", 8, 0, 0},
		{"- - 8 - 9 -", 7, 0, 0},
	} {
		if i, j := plo.Gap(slots(drawn(c.lens)), c.n); i != c.first || j != c.after {
			t.Errorf("Gap of %d in %s: %d, %d, not %d, %d", c.n, c.lens, i, j, c.first, c.after)
		}
	}
}

// bad are entries that are not valid.
func bad() []entry.Entry {
	good := fresh(8)
	l := []entry.Entry{
		{},
		{W: good.W, Len: 8},
		{W: word.Word{Value: addr.Addr{0, 1}}, Len: 8, Action: 1},
		{W: word.Word{Value: addr.Addr{1 << 63, 0}, Mask: addr.Addr{1, 1}}, Len: 8, Action: 1},
	}
	for _, n := range extremes {
		if n < 0 || n > 128 {
			l = append(l, entry.Entry{W: good.W, Len: n, Action: 1})
		}
		if n < 1 || n > 255 {
			l = append(l, entry.Entry{W: good.W, Len: 8, Action: n})
		}
	}
	return l
}

// TestErrors has all that can be wrong at once: the entry comes ahead of the
// order, and the order ahead of the room.
func TestErrors(t *testing.T) { // P12.1
	for _, c := range []struct {
		lens string
		want api.Errno
	}{
		{"", api.ErrFull},
		{"8", api.ErrFull},
		{"16 16 8", api.ErrFull},
		{"8 16", api.ErrOrder},
		{"8 - 16", api.ErrOrder},
		{"- 8 9 -", api.ErrOrder},
		{"8 16 8 16", api.ErrOrder},
		{"-", api.OK},
		{"16 8 -", api.OK},
	} {
		l := slots(drawn(c.lens))
		for _, x := range bad() {
			if w, e := plo.Insert(l, x); len(w) != 0 || e != api.ErrBad {
				t.Errorf("Insert of %v into %s: %v, %v", x, c.lens, w, e)
			}
		}
		for n := range api.V6 + 1 {
			for _, action := range []int{1, 2, 254, 255} {
				x := fresh(n)
				x.Action = action
				w, e := plo.Insert(l, x)
				if e != c.want || (len(w) == 0) != (e != api.OK) {
					t.Errorf("Insert of %v into %s: %v, %v, not %v", x, c.lens, w, e, c.want)
				}
			}
		}
	}
}

// TestFull has slots of all numbers up to that of a bank, all of which are Valid,
// or all but one, wherever it is.
func TestFull(t *testing.T) { // P12.1
	next := sequence(4)
	for many := range api.MaxSlots + 1 {
		lens := ordered(next, many, 0, 128, 0)
		n := next(129)
		if w, e := plo.Insert(slots(lens), fresh(n)); len(w) != 0 || e != api.ErrFull {
			t.Fatalf("Insert of %d into %d: %v, %v", n, lens, w, e)
		}
		for k := range lens {
			if k < 3 || k > many-4 || k%31 == 0 {
				but := slices.Clone(lens)
				but[k] = vacant
				checkInsert(t, but, n)
			}
		}
	}
}

// checkOnTheWay makes the writes of an Insert one at a time: after each of them
// the order is kept, before the last one no entry is missing, and in the end the
// slots have the entry in addition.
func checkOnTheWay(t *testing.T, l []bank.Slot, x entry.Entry) []bank.Slot {
	t.Helper()
	w, e := plo.Insert(l, x)
	if e != api.OK || len(w) < 1 || len(w) > plo.Lengths(l)+1 {
		t.Fatalf("Insert of %v into %v with %d Lens: %v, %v", x, l, plo.Lengths(l), w, e)
	}
	was := bank.Entries(l)
	after := slices.Clone(l)
	for i, m := range w {
		if !bank.May(m, len(l)) {
			t.Fatalf("write %d of an Insert of %v into %v is not valid: %v", i, x, l, m)
		}
		after[m.At] = m.S
		now := bank.Entries(after)
		if !slices.IsSortedFunc(now, func(x, y entry.Entry) int { return y.Len - x.Len }) || !plo.Kept(after) {
			t.Fatalf("after write %d of an Insert of %v into %v the order is not kept", i, x, l)
		}
		missing := func(y entry.Entry) bool { return !slices.Contains(now, y) }
		if slices.ContainsFunc(was, missing) {
			t.Fatalf("after write %d of an Insert of %v into %v an entry is missing", i, x, l)
		}
	}
	if got, want := entry.Sort(bank.Entries(after)), entry.Sort(append(was, x)); !slices.Equal(got, want) {
		t.Fatalf("an Insert of %v into %v leads to %v", x, l, after)
	}
	return after
}

// TestOnTheWay has all lists of up to seven slots in order.
func TestOnTheWay(t *testing.T) { // P12.2
	lists([]int{vacant, 8, 16, 24}, 7, func(lens []int) {
		if !kept(lens) || !slices.Contains(lens, vacant) {
			return
		}
		for _, n := range []int{0, 8, 12, 16, 24, 128} {
			checkOnTheWay(t, slots(lens), fresh(n))
			checkOnTheWay(t, littered(lens), fresh(n))
		}
	})
}

// TestOnTheWayAgain inserts entries until no slot is free, the same ones among
// them, and removes some on the way.
func TestOnTheWayAgain(t *testing.T) { // P12.1, P12.2
	next := sequence(5)
	for i := range 20 {
		l := make([]bank.Slot, 1+next(api.MaxSlots))
		lens := 1 + next(129)
		for bank.Free(l) > 0 {
			l = checkOnTheWay(t, l, mark(next(1+i*9), next(lens)))
			if next(4) == 0 {
				l[next(len(l))] = bank.Slot{}
			}
		}
		if w, e := plo.Insert(l, fresh(lens/2)); len(w) != 0 || e != api.ErrFull {
			t.Fatalf("Insert into %v: %v, %v", l, w, e)
		}
	}
}

// TestMostWrites has as many writes as there can be: a copy for each Len, and one
// for the entry.
func TestMostWrites(t *testing.T) { // P12.1, P12.2
	for many := range api.V6 + 1 {
		var short, long []int
		for k := range many {
			times := 1 + k%2
			short = append(short, slices.Repeat([]int{many - 1 - k}, times)...)
			long = append(long, slices.Repeat([]int{api.V6 - k}, times)...)
		}
		checkMost(t, append(short, vacant), api.V6, many, 0)
		checkMost(t, append([]int{vacant}, long...), 0, many, len(long))
	}
}

// checkMost has an Insert that is written into some slot after so many copies.
func checkMost(t *testing.T, lens []int, n, copies, at int) {
	t.Helper()
	l := slots(lens)
	w, e := plo.Insert(l, fresh(n))
	if e != api.OK || len(w) != copies+1 || w[copies].At != at || plo.Lengths(l) != copies {
		t.Fatalf("Insert of %d into %d: %v, %v", n, lens, w, e)
	}
	checkOnTheWay(t, l, fresh(n))
}

// TestLookups has different prefixes that cover one another: after each write an
// address has the action that it had, or the one that it has in the end.
func TestLookups(t *testing.T) { // P12.2
	next := sequence(6)
	for range 60 {
		l := make([]bank.Slot, 2+next(30))
		for range 99 {
			if bank.Free(l) == 0 {
				break
			}
			x := entry.Of(prefix.Make(addr.Addr{uint64(next(256)) << 56, 0}, next(9)), 1+next(255))
			if slices.ContainsFunc(bank.Entries(l), func(y entry.Entry) bool { return entry.Alike(x, y) }) {
				continue
			}
			w, e := plo.Insert(l, x)
			if e != api.OK {
				t.Fatalf("Insert of %v: %v", x, e)
			}
			checkLookups(t, l, w)
			l = bank.Apply(l, w)
			if next(6) == 0 {
				l[next(len(l))] = bank.Slot{}
			}
		}
	}
}

// checkLookups asks for all addresses that differ in their first eight bits.
func checkLookups(t *testing.T, l []bank.Slot, w []bank.Write) {
	t.Helper()
	end := bank.Apply(l, w)
	for i := range w {
		after := bank.Apply(l, w[:i+1])
		for v := range uint64(256) {
			a := addr.Addr{v << 56, 1}
			if got := bank.Tell(after, a); got != bank.Tell(l, a) && got != bank.Tell(end, a) {
				t.Fatalf("after write %d of %v to %v, %v has the action %d", i, w, l, a, got)
			}
		}
	}
}

// of is the entry of a prefix of V4.
func of(a uint64, n, action int) entry.Entry {
	return entry.Of(prefix.Make(addr.Addr{a << 32, 0}, n), action)
}

func TestExample(t *testing.T) { // example 1
	l := []bank.Slot{full(of(0x0a010000, 16, 1)), full(of(0x0a000000, 8, 2)), full(of(0x0b000000, 8, 3)), {}}
	x := of(0x0a020000, 16, 4)
	want := []bank.Write{{At: 3, S: l[1]}, {At: 1, S: full(x)}}
	if got, e := plo.Insert(l, x); e != api.OK || !slices.Equal(got, want) {
		t.Errorf("the example: %v, %v", got, e)
	}
	if i, j := plo.Gap(l, 16); i != 0 || j != 1 || !plo.Kept(l) || plo.Lengths(l) != 2 {
		t.Errorf("the slots of the example: %d, %d, %t, %d", i, j, plo.Kept(l), plo.Lengths(l))
	}
}

// TestThreeSlots is the first example of the whole document.
func TestThreeSlots(t *testing.T) { // P12.1
	l := make([]bank.Slot, 3)
	all := []entry.Entry{of(0, 0, 1), of(0x0a000000, 8, 2), of(0x0a010000, 16, 3)}
	for i, x := range all {
		w, e := plo.Insert(l, x)
		if len(w) != i+1 || e != api.OK {
			t.Errorf("Insert of entry %d: %v, %v", i, w, e)
		}
		l = bank.Apply(l, w)
	}
	if !slices.Equal(l, []bank.Slot{full(all[2]), full(all[1]), full(all[0])}) {
		t.Errorf("the slots: %v", l)
	}
	if w, e := plo.Insert(l, of(0x0b000000, 8, 4)); len(w) != 0 || e != api.ErrFull {
		t.Errorf("Insert of a fourth entry: %v, %v", w, e)
	}
}

// TestAlike inserts an entry that is in the slots already: it is added as any
// other one.
func TestAlike(t *testing.T) { // P12.1, P12.2
	x := fresh(8)
	l := []bank.Slot{full(mark(0, 16)), full(x), full(mark(2, 4)), {}}
	want := []bank.Write{{At: 3, S: l[2]}, {At: 2, S: full(x)}}
	if got, e := plo.Insert(l, x); e != api.OK || !slices.Equal(got, want) {
		t.Errorf("Insert of an entry again: %v, %v", got, e)
	}
	checkOnTheWay(t, l, x)
	l = slices.Concat(slices.Repeat([]bank.Slot{full(x)}, 5), []bank.Slot{{}})
	y := fresh(9)
	want = []bank.Write{{At: 5, S: full(x)}, {At: 0, S: full(y)}}
	if got, e := plo.Insert(l, y); e != api.OK || !slices.Equal(got, want) {
		t.Errorf("Insert before entries that are the same: %v, %v", got, e)
	}
	checkOnTheWay(t, l, y)
}

// TestMemory has slots with spare memory, which no call may touch, and changes
// what was returned, which may change nothing else.
func TestMemory(t *testing.T) { // P12.1
	next := sequence(7)
	for i := range 300 {
		spare := slots(append(ordered(next, 1+i%40, 0, 128, 5), ordered(next, 20, 0, 128, 5)...))
		spare[next(1+i%40)] = bank.Slot{}
		were := slices.Clone(spare)
		l := spare[:1+i%40]
		x := fresh(next(129))
		got, e := plo.Insert(l, x)
		exact, too := plo.Insert(slices.Clip(slices.Clone(l)), x)
		if e != api.OK || too != api.OK || !slices.Equal(got, exact) {
			t.Fatalf("Insert depends on the memory behind %d slots", len(l))
		}
		plo.Kept(l)
		plo.Gap(l, x.Len)
		plo.Lengths(l)
		clear(exact[:cap(exact)])
		again, _ := plo.Insert(l, x)
		was := slices.Clone(again)
		clear(got[:cap(got)])
		if !slices.Equal(spare, were) || !slices.Equal(again, was) {
			t.Fatalf("a result for %d slots shares memory", len(l))
		}
		clear(spare)
		if !slices.Equal(again, was) {
			t.Fatalf("a result for %d slots shares memory with them", len(l))
		}
	}
}

// TestAgain has each call several times, with other capacities, and nil and empty
// lists, which are equivalent.
func TestAgain(t *testing.T) { // P12.1
	next := sequence(8)
	for range 300 {
		l := slots(ordered(next, 1+next(60), 0, 1+next(128), 5))
		x := fresh(next(129))
		want, no := plo.Insert(l, x)
		first, after := plo.Gap(l, x.Len)
		many := plo.Lengths(l)
		for range 5 {
			l = slices.Grow(l, next(90))
			got, e := plo.Insert(l, x)
			i, j := plo.Gap(l, x.Len)
			if e != no || !slices.Equal(got, want) || i != first || j != after || plo.Lengths(l) != many {
				t.Fatalf("the results for %v differ", l)
			}
		}
	}
	for _, l := range [][]bank.Slot{nil, {}, make([]bank.Slot, 0, 9), slots([]int{vacant, 8})[:0]} {
		first, after := plo.Gap(l, 8)
		if !plo.Kept(l) || first != 0 || after != 0 || plo.Lengths(l) != 0 {
			t.Errorf("no slots: %t, %d, %d, %d", plo.Kept(l), first, after, plo.Lengths(l))
		}
		if w, e := plo.Insert(l, fresh(8)); len(w) != 0 || e != api.ErrFull {
			t.Errorf("Insert into no slots: %v, %v", w, e)
		}
		if w, e := plo.Insert(l, fresh(-1)); len(w) != 0 || e != api.ErrBad {
			t.Errorf("Insert of an entry that is not valid into no slots: %v, %v", w, e)
		}
	}
}

// TestLongLists have far more slots than a bank, and far more Lens than valid
// entries can have.
func TestLongLists(t *testing.T) { // P12.1
	const many = 200_000
	var high, low, same []int
	for k := range many {
		high = append(high, 2*many-k)
		low = append(low, 2*vacant-k)
		same = append(same, 64)
	}
	for _, c := range []struct {
		name   string
		lens   []int
		n      int
		writes int
		at     int
	}{
		{"each Len once, from below", append(slices.Clone(low), vacant), 128, many + 1, 0},
		{"each Len once, from above", append([]int{vacant}, high...), 0, many + 1, many},
		{"one Len, from below", append(slices.Clone(same), vacant), 65, 2, 0},
		{"one Len, from above", append([]int{vacant}, same...), 63, 2, many},
		{"one Len, in the gap", append(slices.Clone(same), vacant), 64, 1, many},
		{"no entry", slices.Repeat([]int{vacant}, many), 64, 1, 0},
	} {
		l := slots(c.lens)
		w, e := plo.Insert(l, fresh(c.n))
		if e != api.OK || len(w) != c.writes || w[len(w)-1] != (bank.Write{At: c.at, S: full(fresh(c.n))}) {
			t.Errorf("%s: %d writes, %v", c.name, len(w), e)
		}
	}
	l := slots(high)
	if plo.Lengths(l) != many || plo.Lengths(slots(same)) != 1 || !plo.Kept(l) {
		t.Error("Lengths and Kept of long lists")
	}
	if w, e := plo.Insert(l, fresh(8)); len(w) != 0 || e != api.ErrFull {
		t.Errorf("Insert into a long list that is full: %d writes, %v", len(w), e)
	}
	slices.Reverse(l)
	if i, j := plo.Gap(l, 8); i != 0 || j != 0 || plo.Kept(l) {
		t.Error("a long list in reverse keeps the order")
	}
}
