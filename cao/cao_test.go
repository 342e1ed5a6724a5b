package cao_test

import (
	"fmt"
	"math"
	"slices"
	"strings"
	"testing"

	"pigeonhole/addr"
	"pigeonhole/api"
	"pigeonhole/bank"
	"pigeonhole/cao"
	"pigeonhole/entry"
	"pigeonhole/prefix"
	"pigeonhole/word"
)

// shape is an entry without its action: a word as a text of 0, 1 and free bits (a
// blank), and a Len. Slots are held against lists of shapes, in which each Valid
// slot has an action of its own.
type shape struct {
	bits string
	n    int
}

// vacant stands for a slot that is not Valid in a list of shapes.
var vacant = shape{"-", 0}

// itself stands for the inserted entry where a write is told by the slot whose
// entry it copies.
const itself = -1

// copying is a write: the slot that is written, and the one that it copies.
type copying struct{ to, from int }

// places are where the texts of shapes begin in an address.
var places = []int{0, 31, 62, 124}

// prefixes are all with up to two bits.
var prefixes = []shape{{"", 0}, {"0", 1}, {"1", 1}, {"00", 2}, {"01", 2}, {"10", 2}, {"11", 2}}

// families are sets of shapes with words that overlap in other ways, or have Lens
// that do not follow from them.
var families = [][]shape{
	{{"", 0}, {"0", 1}, {"00", 2}, {"000", 3}, {"0000", 4}},
	{{"", 1}, {"", 2}, {"", 3}, {"0", 2}},
	{{"0 ", 3}, {" 0", 2}, {"1 ", 1}, {" 1", 4}},
	{{"0 ", 3}, {"  ", 2}, {"1 ", 1}, {"1 ", 2}},
	{{"00", 4}, {"0 ", 3}, {" 1", 2}, {"11", 1}},
	{{"0  ", 1}, {" 0 ", 2}, {"  0", 3}, {"11 ", 4}},
	{{"0", 2}, {"0", 1}, {"1", 2}, {"1", 1}},
}

// extremes are Lens at the edges of what an entry can have, and far beyond; some
// of them become others if they are cut to fewer bits or subtracted.
var extremes = []int{
	math.MinInt, math.MinInt + 1, math.MinInt32, -1 << 32, -1<<32 + 8, -256, -129, -1, 0, 1, 8, 9, 31, 32, 127, 128, 129,
	255, 256, 256 + 8, math.MaxInt32, 1 << 32, 1<<32 + 8, math.MaxInt - 1, math.MaxInt,
}

// sequence makes numbers without a pattern, always the same ones.
func sequence(seed uint64) func(below int) int {
	x := seed
	return func(below int) int {
		x = x*6364136223846793005 + 1442695040888963407
		return int(x >> 33 % uint64(below))
	}
}

// make is the entry of a shape whose text begins at some place.
func (s shape) make(place, action int) entry.Entry {
	x := entry.Entry{Len: s.n, Action: action}
	for i, c := range s.bits {
		if c != ' ' {
			x.W.Mask = addr.With(x.W.Mask, place+i, true)
			x.W.Value = addr.With(x.W.Value, place+i, c == '1')
		}
	}
	return x
}

// meets is the chapter's own definition: an address that both match has the bits
// of both.
func meets(x, y shape) bool {
	for i := range min(len(x.bits), len(y.bits)) {
		if a, b := x.bits[i], y.bits[i]; a != b && a != ' ' && b != ' ' {
			return false
		}
	}
	return true
}

// above is the chapter's own definition of what must precede; a slot that is not
// Valid has no entry.
func above(x, y shape) bool { return x != vacant && y != vacant && x.n > y.n && meets(x, y) }

func full(x entry.Entry) bank.Slot { return bank.Slot{Valid: true, E: x} }

// slots have the shapes of a list; those that are not Valid are empty.
func slots(l []shape, place int) []bank.Slot {
	var made []bank.Slot
	for k, s := range l {
		if s == vacant {
			made = append(made, bank.Slot{})
			continue
		}
		made = append(made, full(s.make(place, 1+k%254)))
	}
	return made
}

// littered have the shapes of a list; those that are not Valid have entries that
// would be out of order.
func littered(l []shape, place int) []bank.Slot {
	made := slots(l, place)
	for k, s := range made {
		if !s.Valid {
			made[k].E = shape{"", []int{math.MaxInt, math.MinInt, 0, 128, k}[k%5]}.make(place, 1+k%254)
		}
	}
	return made
}

// lists calls f with all lists of up to so many of some shapes.
func lists(from []shape, most int, f func(l []shape)) {
	var longer func(l []shape)
	longer = func(l []shape) {
		f(l)
		for _, s := range from {
			if len(l) < most {
				longer(append(slices.Clone(l), s))
			}
		}
	}
	longer(nil)
}

// kept is the chapter's own definition.
func kept(l []shape) bool {
	for j := range l {
		for k := range j {
			if above(l[j], l[k]) {
				return false
			}
		}
	}
	return true
}

// lastAbove is the last slot before some slot whose entry must precede x, or -1.
func lastAbove(l []shape, x shape, k int) int {
	for k--; k >= 0; k-- {
		if above(l[k], x) {
			return k
		}
	}
	return -1
}

// firstBelow is the first slot from some slot on whose entry x must precede, or
// the end.
func firstBelow(l []shape, x shape, k int) int {
	for ; k < len(l); k++ {
		if above(x, l[k]) {
			return k
		}
	}
	return len(l)
}

// gap is the chapter's own definition.
func gap(l []shape, x shape) (int, int) { return lastAbove(l, x, len(l)) + 1, firstBelow(l, x, 0) }

// vacate has the last vacated slot copied to a target, the one before it to that
// one, and so on; the first one is written with the inserted entry.
func vacate(vacated []int, target int) []copying {
	var c []copying
	for _, k := range slices.Backward(vacated) {
		c = append(c, copying{target, k})
		target = k
	}
	return append(c, copying{target, itself})
}

// fromBelow is the chapter's own definition of that way, behind a gap that ends
// before a slot.
func fromBelow(l []shape, k int) ([]copying, bool) {
	var vacated []int
	for k < len(l) {
		vacated = append(vacated, k)
		limit := firstBelow(l, l[k], k+1)
		for target := k + 1; target < limit; target++ {
			if l[target] == vacant {
				return vacate(vacated, target), true
			}
		}
		k = limit
	}
	return nil, false
}

// fromAbove is the chapter's own definition of that way, before a gap that begins
// behind a slot.
func fromAbove(l []shape, k int) ([]copying, bool) {
	var vacated []int
	for k >= 0 {
		vacated = append(vacated, k)
		limit := lastAbove(l, l[k], k)
		for target := k - 1; target > limit; target-- {
			if l[target] == vacant {
				return vacate(vacated, target), true
			}
		}
		k = limit
	}
	return nil, false
}

// inserted is the chapter's own definition, for an entry that is valid.
func inserted(l []shape, x shape) ([]copying, api.Errno) {
	first, after := gap(l, x)
	if !kept(l) || after < first {
		return nil, api.ErrOrder
	}
	for k := first; k < after; k++ {
		if l[k] == vacant {
			return []copying{{k, itself}}, api.OK
		}
	}
	below, isBelow := fromBelow(l, after)
	above, isAbove := fromAbove(l, first-1)
	switch {
	case !isBelow && !isAbove:
		return nil, api.ErrFull
	case !isBelow || isAbove && len(above) < len(below):
		return above, api.OK
	}
	return below, api.OK
}

// writes are those that copyings tell.
func writes(l []bank.Slot, c []copying, x entry.Entry) []bank.Write {
	var w []bank.Write
	for _, m := range c {
		s := full(x)
		if m.from != itself {
			s = l[m.from]
		}
		w = append(w, bank.Write{At: m.to, S: s})
	}
	return w
}

// chain is the chapter's own definition: from each entry, the longest way on.
func chain(l []shape) int {
	known := make([]int, len(l))
	var from func(k int) int
	from = func(k int) int {
		if known[k] > 0 {
			return known[k]
		}
		most := 0
		for j := range l {
			if above(l[k], l[j]) {
				most = max(most, from(j))
			}
		}
		known[k] = 1 + most
		return known[k]
	}
	longest := 0
	for k, s := range l {
		if s != vacant {
			longest = max(longest, from(k))
		}
	}
	return longest
}

// checkKept holds Kept, and Gap for some entries, against the definitions.
func checkKept(t *testing.T, l []shape, place int, xs []shape) {
	t.Helper()
	for _, made := range [][]bank.Slot{slots(l, place), littered(l, place)} {
		was := slices.Clone(made)
		if got := cao.Kept(made); got != kept(l) {
			t.Fatalf("Kept of %v at %d: %t", l, place, got)
		}
		for _, x := range xs {
			first, after := gap(l, x)
			if i, j := cao.Gap(made, x.make(place, 255)); i != first || j != after {
				t.Fatalf("Gap of %v in %v at %d: %d, %d, not %d, %d", x, l, place, i, j, first, after)
			}
		}
		if !slices.Equal(made, was) {
			t.Fatalf("the slots %v were changed", l)
		}
	}
}

// checkInsert holds Insert of a valid entry against the definition.
func checkInsert(t *testing.T, l []shape, place int, x shape) {
	t.Helper()
	c, want := inserted(l, x)
	for _, made := range [][]bank.Slot{slots(l, place), littered(l, place)} {
		was := slices.Clone(made)
		y := x.make(place, 255)
		got, e := cao.Insert(made, y)
		if e != want || !slices.Equal(got, writes(made, c, y)) {
			t.Fatalf("Insert of %v into %v at %d: %v, %v, not %v, %v", x, l, place, got, e, c, want)
		}
		if !slices.Equal(made, was) {
			t.Fatalf("Insert of %v has changed the slots %v", x, l)
		}
	}
}

// checkChain holds Chain against the definition.
func checkChain(t *testing.T, l []shape, place int) {
	t.Helper()
	made := bank.Entries(slots(l, place))
	was := slices.Clone(made)
	if got, want := cao.Chain(made), chain(l); got != want {
		t.Fatalf("Chain of %v at %d: %d, not %d", l, place, got, want)
	}
	if !slices.Equal(made, was) {
		t.Fatalf("Chain has changed %v", l)
	}
}

// nested are so many shapes, each of which the next one covers, with the Lens
// from the greatest one down.
func nested(greatest, many int) []shape {
	var l []shape
	for k := range many {
		n := greatest - k
		l = append(l, shape{strings.Repeat("1", n), n})
	}
	return l
}

// some are so many prefixes without a pattern, with up to so many bits.
func some(next func(below int) int, many, most int) []shape {
	var l []shape
	for range many {
		n := next(most + 1)
		l = append(l, shape{fmt.Sprintf("%0*b", most, next(1<<most))[:n], n})
	}
	return l
}

// loose are so many words without a pattern, with Lens that do not follow from
// them.
func loose(next func(below int) int, many, width, lens int) []shape {
	var l []shape
	for range many {
		text := ""
		for range width {
			text += string("01 "[next(3)])
		}
		l = append(l, shape{text, next(lens)})
	}
	return l
}

// ordered are the shapes of a list in an order of chains that has no pattern else:
// the next one is any that no other one that is left must precede.
func ordered(next func(below int) int, l []shape) []shape {
	left := slices.Clone(l)
	var made []shape
	for len(left) > 0 {
		k := next(len(left))
		for i := 0; i < len(left); i++ {
			if above(left[i], left[k]) {
				k, i = i, -1
			}
		}
		made = append(made, left[k])
		left = slices.Delete(left, k, k+1)
	}
	return made
}

// holes makes so many slots of a hundred vacant, and one of them in any case if
// asked.
func holes(next func(below int) int, l []shape, gaps int, one bool) []shape {
	l = slices.Clone(l)
	for k := range l {
		if next(100) < gaps {
			l[k] = vacant
		}
	}
	if one && len(l) > 0 {
		l[next(len(l))] = vacant
	}
	return l
}

// TestAllPrefixes has all lists of up to four slots with any of the prefixes of up
// to two bits, and entries of each of them and of some with three bits.
func TestAllPrefixes(t *testing.T) { // P13.1
	xs := append([]shape{{"000", 3}, {"011", 3}, {"100", 3}, {"111", 3}}, prefixes...)
	lists(append([]shape{vacant}, prefixes...), 4, func(l []shape) {
		place := places[len(l)%len(places)]
		checkKept(t, l, place, xs)
		for _, x := range xs {
			if kept(l) || len(l) < 4 {
				checkInsert(t, l, place, x)
			}
		}
	})
}

// TestAllFamilies has all lists of up to five or six slots with some shapes.
func TestAllFamilies(t *testing.T) { // P13.1
	for i, family := range families {
		xs := slices.Concat(family, []shape{{"0", 5}, {"", 0}, {" 1", 3}, {"  0", 2}})
		lists(append([]shape{vacant}, family...), 10-len(family), func(l []shape) {
			place := places[i%len(places)]
			checkKept(t, l, place, xs)
			for _, x := range xs {
				if kept(l) || len(l) < 4 {
					checkInsert(t, l, place, x)
				}
			}
		})
	}
}

// TestAllChains has all lists of up to five or six entries with some shapes, in any
// order.
func TestAllChains(t *testing.T) { // P13.1
	lists(prefixes, 5, func(l []shape) { checkChain(t, l, places[len(l)%len(places)]) })
	for i, family := range families {
		lists(family, 6, func(l []shape) { checkChain(t, l, places[i%len(places)]) })
	}
}

// TestExtremes has slots with two extreme Lens, in words that meet or do not, with
// or without others around them that are not Valid.
func TestExtremes(t *testing.T) { // P13.1
	var xs []shape
	for _, n := range extremes {
		xs = append(xs, shape{"0", n}, shape{"10", n})
	}
	for _, m := range extremes {
		for _, n := range extremes {
			x, y, z := shape{"0", m}, shape{"", n}, shape{"1", n}
			checkKept(t, []shape{x, y}, 0, xs)
			checkKept(t, []shape{vacant, x, vacant, z, vacant}, 63, []shape{x, y, z})
			checkChain(t, []shape{x, y}, 0)
			checkChain(t, []shape{z, x, y, z, x}, 63)
			for _, k := range extremes {
				checkChain(t, []shape{x, z, {"0", k}, {"1", k}}, 0)
			}
		}
		checkChain(t, []shape{{"", m}}, 0)
	}
	var l []shape
	for _, n := range extremes {
		l = append(l, shape{"", n})
	}
	checkChain(t, l, 0)
	slices.Reverse(l)
	checkChain(t, l, 0)
	checkKept(t, l, 0, l)
	if got := cao.Chain(bank.Entries(slots(l, 0))); got != len(extremes) {
		t.Errorf("Chain of the extremes: %d", got)
	}
}

// TestEachBit has two words that differ in one bit, or in whether it counts, and
// two Lens that differ in one bit.
func TestEachBit(t *testing.T) { // P13.1
	free := strings.Repeat(" ", 128)
	for k := range 128 {
		zero, one := free[:k]+"0"+free[k+1:], free[:k]+"1"+free[k+1:]
		for _, x := range []shape{{zero, 2}, {one, 2}, {free, 2}} {
			for _, y := range []shape{{zero, 1}, {one, 1}, {free, 1}} {
				checkKept(t, []shape{y, x}, 0, []shape{x, y})
				checkInsert(t, []shape{y, vacant}, 0, x)
				checkInsert(t, []shape{vacant, x}, 0, y)
				checkChain(t, []shape{y, x}, 0)
			}
		}
	}
	for k := range 64 {
		for _, n := range []int{5, -5} {
			x, y := shape{"", n}, shape{"", n ^ 1<<k}
			checkKept(t, []shape{x, y}, 0, []shape{x, y})
			checkKept(t, []shape{y, x}, 0, []shape{x, y})
			checkChain(t, []shape{y, x}, 0)
		}
	}
}

// TestFreeBits has bits of Value at free positions, which do not count: such an
// entry is not valid, but it may be in a slot.
func TestFreeBits(t *testing.T) { // P13.1
	x := entry.Entry{W: word.Word{Value: addr.Addr{3 << 62, 7}, Mask: addr.Addr{1 << 63, 0}}, Len: 2, Action: 1}
	y := entry.Entry{W: word.Word{Value: addr.Addr{1 << 63, 0}, Mask: addr.Addr{3 << 62, 0}}, Len: 1, Action: 2}
	z := entry.Entry{W: word.Word{Value: addr.Addr{0, 7}, Mask: addr.Addr{1 << 63, 0}}, Len: 1, Action: 3}
	if !cao.Kept([]bank.Slot{full(x), full(y)}) || cao.Kept([]bank.Slot{full(y), full(x)}) {
		t.Error("Kept counts free bits")
	}
	if !cao.Kept([]bank.Slot{full(z), full(x)}) {
		t.Error("Kept does not count a bit that is not free")
	}
	if i, j := cao.Gap([]bank.Slot{{}, full(x), {}, full(z), {}}, y); i != 2 || j != 5 {
		t.Errorf("Gap with free bits: %d, %d", i, j)
	}
	if i, j := cao.Gap([]bank.Slot{{}, full(z), {}, full(y), {}}, x); i != 0 || j != 3 {
		t.Errorf("Gap of an entry with free bits: %d, %d", i, j)
	}
	if got := cao.Chain([]entry.Entry{y, z, x}); got != 2 {
		t.Errorf("Chain with free bits: %d", got)
	}
	top := entry.Entry{Len: 9, Action: 200}
	l := []bank.Slot{full(x), full(y), {}}
	want := []bank.Write{{At: 2, S: full(y)}, {At: 1, S: full(x)}, {At: 0, S: full(top)}}
	if got, e := cao.Insert(l, top); e != api.OK || !slices.Equal(got, want) {
		t.Errorf("Insert before an entry with free bits: %v, %v", got, e)
	}
}

// TestOneOutOfOrder has long slots in order but for one entry at each place.
func TestOneOutOfOrder(t *testing.T) { // P13.1
	for k := range 60 {
		for _, by := range []int{-2, 2} {
			var l []shape
			for _, s := range nested(70, 60) {
				l = append(l, s, vacant)
			}
			l[2*k].n += by
			checkKept(t, l, 0, []shape{l[2*k], l[60]})
			checkInsert(t, l, 0, shape{"11", 50})
			checkInsert(t, l, 0, shape{"10", 50})
		}
	}
	l := slices.Repeat([]shape{vacant}, 300)
	l[0], l[299] = shape{"", 7}, shape{"0", 8}
	checkKept(t, l, 0, []shape{l[0], l[299]})
	checkInsert(t, l, 0, shape{"1", 7})
	l[0] = shape{"1", 7}
	checkKept(t, l, 0, []shape{l[0], l[299]})
	checkInsert(t, l, 0, shape{"1", 7})
}

// TestPrefixesWithoutPattern has prefixes in slots of all numbers up to that of a
// bank, many of them with few slots that are not Valid.
func TestPrefixesWithoutPattern(t *testing.T) { // P13.1
	next := sequence(1)
	for i := range 1500 {
		many, most := 1+next(api.MaxSlots), 1+next(12)
		if i%5 > 0 {
			many = 1 + next(40)
		}
		l := holes(next, ordered(next, some(next, many, most)), next(1+i%20), i%2 == 0)
		xs := some(next, 4, most)
		place := places[i%2]
		checkKept(t, l, place, xs)
		for _, x := range xs {
			checkInsert(t, l, place, x)
		}
		checkChain(t, l, place)
		l[next(len(l))] = some(next, 1, most)[0]
		checkKept(t, l, place, xs)
		checkInsert(t, l, place, xs[0])
	}
}

// TestWordsWithoutPattern has words that overlap, and Lens that do not follow
// from them.
func TestWordsWithoutPattern(t *testing.T) { // P13.1
	next := sequence(2)
	for i := range 2000 {
		many, width, lens := 1+next(1+i%60), 1+next(5), 1+next(60)
		l := holes(next, ordered(next, loose(next, many, width, lens)), next(1+i%20), i%2 == 0)
		xs := loose(next, 4, width, lens)
		place := places[i%3]
		checkKept(t, l, place, xs)
		for _, x := range xs {
			checkInsert(t, l, place, x)
		}
		checkChain(t, l, place)
		slices.Reverse(l)
		checkChain(t, l, place)
	}
}

// drawn are shapes that are written as a text, with a dash for a slot that is not
// Valid, e for the prefix without bits, and dots for free bits. A Len that does
// not follow from the bits stands behind a slash.
func drawn(text string) []shape {
	var l []shape
	for _, part := range strings.Fields(text) {
		bits, n, told := strings.Cut(part, "/")
		if bits == "-" {
			l = append(l, vacant)
			continue
		}
		s := shape{strings.ReplaceAll(strings.TrimPrefix(bits, "e"), ".", " "), 0}
		s.n = len(s.bits)
		if told {
			fmt.Sscan(n, &s.n)
		}
		l = append(l, s)
	}
	return l
}

// tell has writes as a text.
func tell(l []bank.Slot, w []bank.Write) string {
	var parts []string
	for _, x := range w {
		part := fmt.Sprint(x.At)
		if k := slices.Index(l, x.S); k >= 0 {
			part += fmt.Sprint("<", k)
		}
		parts = append(parts, part)
	}
	return strings.Join(parts, " ")
}

// TestByHand has writes that are written out, whatever the definitions in these
// tests say: a write is told by the slot and, unless it is of the entry itself,
// by the slot that is copied to it.
func TestByHand(t *testing.T) { // P13.1
	for _, c := range []struct{ name, slots, x, want string }{
		{"a single slot", "-", "e", "0"},
		{"all slots are empty", "- - -", "0", "0"},
		{"the first one in the gap", "00 - - e", "0", "1"},
		{"the first one of several, between others", "00 11 - 1 - e", "0", "2"},
		{"nothing but others", "11 - 1 -", "0", "1"},
		{"equal ones do not matter", "0 0 - 0", "0", "2"},
		{"one that is longer but apart does not matter", "1 - 011 -", "00", "1"},
		{"the gap begins at slot 0", "- 1 e", "0", "0"},
		{"the gap goes up to the end", "00 1 -", "0", "2"},
		{"the gap goes before one that is nearer", "- 00 1 - e -", "0", "3"},
		{"from below, one slot", "e -", "0", "1<0 0"},
		{"from below, past others", "10 0 10 1 -", "00", "4<1 1"},
		{"from below, the first free slot", "0 1 - -", "00", "2<0 0"},
		{"from below, past others that are longer", "0/1 11/4 -", "0/3", "2<0 0"},
		{"from below, a chain", "00 0 e -", "000", "3<2 2<1 1<0 0"},
		{"from below, not all of a chain", "0 - e -", "00", "1<0 0"},
		{"from below, past one of another chain", "00 10 0 1 e -", "001", "5<4 4<2 2<0 0"},
		{"from below, a free slot before the next of the chain", "00 10 - 0 e -", "001", "2<0 0"},
		{"from below, the gap has others", "11 1 0 e -", "00", "4<3 3<2 2"},
		{"from above, one slot", "- 0", "e", "0<1 1"},
		{"from above, before others", "- 1 0 1", "e", "0<3 3"},
		{"from above, the last free slot", "- - 0 1", "e", "1<3 3"},
		{"from above, a chain", "- 000 00 0", "e", "0<1 1<2 2<3 3"},
		{"from above, not all of a chain", "- 00 - 0", "e", "2<3 3"},
		{"from above, past one of another chain", "- 000 100 10 00 1 0", "e", "0<1 1<4 4<6 6"},
		{"from above, a free slot behind the last of the chain", "- 00 - 1 0", "e", "2<4 4"},
		{"from above, the gap has others", "- 00 0 11 1 e/1", "e/1", "0<3 3"},
		{"no slot after the gap", "- 00 1", "0", "0<1 1"},
		{"no slot before the gap", "1 e -", "0", "2<1 1"},
		{"equally many, one each", "- 00 e -", "0", "3<2 2"},
		{"equally many, two each", "- 0000 000 00 0 e -", "00", "6<5 5<4 4"},
		{"fewer from above", "- 000 0 e -", "00", "0<1 1"},
		{"fewer from above, though farther", "- 11 10 000 0 e -", "00", "0<3 3"},
		{"fewer from below", "- 0000 000 0 -", "00", "4<3 3"},
		{"fewer from below, though farther", "- 0000 000 0 11 10 -", "00", "6<3 3"},
		{"equally many, though farther from below", "- 000 0 11 10 -", "00", "5<2 2"},
		{"the gap counts before a way", "- 000 1 - 0 -", "00", "3"},
		{"not by Len alone", "0 1111 11 e -", "10", "4<3 3"},
		{"words that are not prefixes, in the gap", "0./3 - 1./1", "../2", "1"},
		{"words that are not prefixes, past one that is apart", "0./3 11/2 1./1 -", "00/4", "3<0 0"},
		{"words that are not prefixes, a chain with its ends apart", "0./3 .0/2 1./1 -", "00/4", "3<2 2<1 1<0 0"},
		{"words that are not prefixes, such a chain from above", "- 0./3 .0/2 1./1", "11/0", "0<1 1<2 2<3 3"},
	} {
		l := slots(drawn(c.slots), 0)
		x := drawn(c.x)[0].make(0, 255)
		got, e := cao.Insert(l, x)
		if told := tell(l, got); told != c.want || e != api.OK {
			t.Errorf("%s: Insert of %s into %s: %s, %v, not %s", c.name, c.x, c.slots, told, e, c.want)
		}
	}
}

// TestGapByHand has gaps that are written out, whatever the definitions in these
// tests say.
func TestGapByHand(t *testing.T) { // P13.1
	for _, c := range []struct {
		slots, x     string
		first, after int
	}{
		{"", "0", 0, 0},
		{"-", "0", 0, 1},
		{"- - -", "0", 0, 3},
		{"0", "0", 0, 1},
		{"1", "0", 0, 1},
		{"e", "0", 0, 0},
		{"00", "0", 1, 1},
		{"- e -", "0", 0, 1},
		{"- 00 -", "0", 2, 3},
		{"- 10 -", "0", 0, 3},
		{"00 - 1 - e -", "0", 1, 4},
		{"00 01 - 0 1 e -", "0", 2, 5},
		{"00 e e", "0", 1, 1},
		{"00 e 01", "0", 3, 1},
		{"e 00", "0", 2, 0},
		{"e - - 00", "0", 4, 0},
		{"e - - 00", "1", 0, 0},
		{"00 1 01 - e 1 e", "0", 3, 4},
		{"1./1 - 0./3", "../2", 3, 0},
		{"0./3 - 1./1", "../2", 1, 2},
		{"e/5", "0/5", 0, 1},
		{"e/6", "0/5", 1, 1},
		{"e/4", "0/5", 0, 0},
		{"00/1 01/2", "0/5", 0, 0},
	} {
		x := drawn(c.x)[0].make(0, 255)
		if i, j := cao.Gap(slots(drawn(c.slots), 0), x); i != c.first || j != c.after {
			t.Errorf("Gap of %s in %s: %d, %d, not %d, %d", c.x, c.slots, i, j, c.first, c.after)
		}
	}
}

// TestChainByHand has numbers that are written out, whatever the definitions in
// these tests say.
func TestChainByHand(t *testing.T) { // P13.1
	for _, c := range []struct {
		entries string
		want    int
	}{
		{"", 0},
		{"e", 1},
		{"0 0 0", 1},
		{"0 1 00/1 e/1", 1},
		{"e 0 00", 3},
		{"00 0 e", 3},
		{"0 00 e 1", 3},
		{"00 01 10 11 0 1 e", 3},
		{"00 11", 1},
		{"000 0 11 11/3 1 e 11/4 1/5", 6},
		{"0./3 ../2 1./1", 3},
		{"0./3 1./1", 1},
		{"0/3 0/3 0/2 0/2 0/1 0/1", 3},
		{"0/9 1/8 0/7 1/6 0/5", 3},
	} {
		if got := cao.Chain(bank.Entries(slots(drawn(c.entries), 0))); got != c.want {
			t.Errorf("Chain of %s: %d, not %d", c.entries, got, c.want)
		}
	}
}

// TestKeptByHand has slots that are written out, whatever the definitions in these
// tests say.
func TestKeptByHand(t *testing.T) { // P13.1
	for _, c := range []struct {
		slots string
		want  bool
	}{
		{"", true},
		{"- -", true},
		{"0", true},
		{"00 0 e", true},
		{"0 00", false},
		{"- 0 - 00 -", false},
		{"1 00", true},
		{"1 - 00 0 11/1 e", true},
		{"1 - 00 0 11 e", false},
		{"e 0 00", false},
		{"00 e 1", false},
		{"0 0/1 0", true},
		{"0./1 .0/2", false},
		{".0/2 0./1", true},
		{"0./1 1./2", true},
	} {
		if got := cao.Kept(slots(drawn(c.slots), 0)); got != c.want {
			t.Errorf("Kept of %s: %t", c.slots, got)
		}
	}
}

// bad are entries that are not valid.
func bad() []entry.Entry {
	w := word.Of(prefix.Make(addr.Addr{7 << 56, 0}, 8))
	l := []entry.Entry{
		{},
		{W: w, Len: 8},
		{W: word.Word{Value: addr.Addr{0, 1}}, Len: 8, Action: 1},
		{W: word.Word{Value: addr.Addr{1 << 63, 0}, Mask: addr.Addr{1, 1}}, Len: 8, Action: 1},
	}
	for _, n := range extremes {
		if n < 0 || n > 128 {
			l = append(l, entry.Entry{W: w, Len: n, Action: 1})
		}
		if n < 1 || n > 255 {
			l = append(l, entry.Entry{W: w, Len: 8, Action: n})
		}
	}
	return l
}

// TestErrors has all that can be wrong at once: the entry comes ahead of the
// order, and the order and the gap ahead of the room.
func TestErrors(t *testing.T) { // P13.1
	for _, c := range []struct {
		slots, x string
		want     api.Errno
	}{
		{"", "0", api.ErrFull},
		{"e", "0", api.ErrFull},
		{"0 0 0", "0", api.ErrFull},
		{"00 0 e", "0", api.ErrFull},
		{"1 00", "0", api.ErrFull},
		{"0 00", "1", api.ErrOrder},
		{"0 - 00", "1", api.ErrOrder},
		{"- 0 00 -", "1", api.ErrOrder},
		{"0 - 00", "00", api.ErrOrder},
		{"1./1 0./3", "../2", api.ErrOrder},
		{"1./1 0./3 -", "../2", api.ErrOrder},
		{"- 1./1 - 0./3", "../2", api.ErrOrder},
		{"1./1 - 0./3", "../1", api.OK},
		{"1./1 - 0./3", "../3", api.OK},
		{"0./3 1./1 -", "../2", api.OK},
		{"0./3 1./1", "../2", api.ErrFull},
		{"-", "0", api.OK},
		{"00 0 -", "0", api.OK},
		{"e/128 -", "0/127", api.OK},
		{"e/127 -", "0/128", api.OK},
		{"e/1 -", "0/0", api.OK},
	} {
		l := slots(drawn(c.slots), 0)
		for _, x := range bad() {
			if w, e := cao.Insert(l, x); len(w) != 0 || e != api.ErrBad {
				t.Errorf("Insert of %v into %s: %v, %v", x, c.slots, w, e)
			}
		}
		for _, action := range []int{1, 2, 254, 255} {
			x := drawn(c.x)[0].make(0, action)
			w, e := cao.Insert(l, x)
			if e != c.want || (len(w) == 0) != (e != api.OK) {
				t.Errorf("Insert of %v into %s: %v, %v, not %v", x, c.slots, w, e, c.want)
			}
		}
	}
}

// TestBadEntriesInSlots has entries in slots that are not valid: they are taken as
// they are, and copied so.
func TestBadEntriesInSlots(t *testing.T) { // P13.1
	l := []bank.Slot{
		full(entry.Entry{W: word.Word{Value: addr.Addr{1, 1}}, Len: 900, Action: -5}),
		full(entry.Entry{W: word.Word{Value: addr.Addr{2, 2}}, Len: -7, Action: 1000}),
		{E: entry.Entry{W: word.Word{Value: addr.Addr{3, 3}}, Len: 300, Action: 7}},
	}
	x := entry.Entry{Len: 10, Action: 9}
	want := []bank.Write{{At: 2, S: l[1]}, {At: 1, S: full(x)}}
	if got, e := cao.Insert(l, x); e != api.OK || !slices.Equal(got, want) {
		t.Errorf("Insert among entries that are not valid: %v, %v", got, e)
	}
	slices.Reverse(l)
	want = []bank.Write{{At: 0, S: l[1]}, {At: 1, S: l[2]}, {At: 2, S: full(x)}}
	if _, e := cao.Insert(l, x); e != api.ErrOrder {
		t.Errorf("Insert among entries out of order: %v", e)
	}
	l[1], l[2] = l[2], l[1]
	x.Len = 0
	want = []bank.Write{{At: 0, S: l[1]}, {At: 1, S: full(x)}}
	if got, e := cao.Insert(l, x); e != api.OK || !slices.Equal(got, want) {
		t.Errorf("Insert behind entries that are not valid: %v, %v", got, e)
	}
}

// TestFull has slots of all numbers up to that of a bank, all of which are Valid,
// or all but one, wherever it is.
func TestFull(t *testing.T) { // P13.1, P13.2
	next := sequence(3)
	for many := range api.MaxSlots + 1 {
		l := ordered(next, some(next, many, 8))
		x := some(next, 1, 8)[0]
		if w, e := cao.Insert(slots(l, 0), x.make(0, 1)); len(w) != 0 || e != api.ErrFull {
			t.Fatalf("Insert of %v into %v: %v, %v", x, l, w, e)
		}
		for k := range l {
			if k < 3 || k > many-4 || k%31 == 0 {
				but := slices.Clone(l)
				but[k] = vacant
				checkInsert(t, but, 0, x)
				checkOnTheWay(t, but, x)
			}
		}
	}
}

// settled tells whether a slot is in order with the others.
func settled(l []shape, k int) bool {
	return lastAbove(l, l[k], len(l)) < k && firstBelow(l, l[k], 0) > k
}

// checkOnTheWay makes the writes of an Insert one at a time: after each of them
// the order is kept, before the last one no entry is missing, and in the end the
// slots have the entry in addition. As this holds before a write, it is asked of
// what the write changes. It returns the shapes of the end.
func checkOnTheWay(t *testing.T, l []shape, x shape) []shape {
	t.Helper()
	made := slots(l, 0)
	y := x.make(0, 255)
	w, e := cao.Insert(made, y)
	if e != api.OK || len(w) < 1 || len(w) > chain(l)+1 || len(w) > cao.Chain(bank.Entries(made))+1 {
		t.Fatalf("Insert of %v into %v with chains of %d: %v, %v", x, l, chain(l), w, e)
	}
	shapes := map[bank.Slot]shape{full(y): x}
	for k, s := range made {
		shapes[s] = l[k]
	}
	now, after := slices.Clone(l), slices.Clone(made)
	for i, m := range w {
		s, known := shapes[m.S]
		if !known || !bank.May(m, len(l)) {
			t.Fatalf("write %d of an Insert of %v into %v: %v", i, x, l, m)
		}
		gone := after[m.At]
		after[m.At], now[m.At] = m.S, s
		if !settled(now, m.At) {
			t.Fatalf("after write %d of an Insert of %v into %v the order is not kept", i, x, l)
		}
		if gone.Valid && !slices.Contains(after, gone) {
			t.Fatalf("after write %d of an Insert of %v into %v an entry is missing", i, x, l)
		}
	}
	if !cao.Kept(after) {
		t.Fatalf("an Insert of %v into %v leads to %v, which is not kept", x, l, after)
	}
	if got, want := entry.Sort(bank.Entries(after)), entry.Sort(append(bank.Entries(made), y)); !slices.Equal(got, want) {
		t.Fatalf("an Insert of %v into %v leads to %v", x, l, after)
	}
	return now
}

// TestOnTheWay has all lists of up to four to six slots in order. There is a way
// wherever a slot is not Valid, for words that are not prefixes unless the gap
// ends before it begins.
func TestOnTheWay(t *testing.T) { // P13.2
	lists(append([]shape{vacant}, prefixes...), 4, func(l []shape) {
		for _, x := range prefixes {
			if kept(l) && slices.Contains(l, vacant) {
				checkOnTheWay(t, l, x)
			}
		}
	})
	for _, family := range families {
		lists(append([]shape{vacant}, family...), 10-len(family), func(l []shape) {
			for _, x := range family {
				first, after := gap(l, x)
				if kept(l) && first <= after && slices.Contains(l, vacant) {
					checkOnTheWay(t, l, x)
				}
			}
		})
	}
}

// TestOnTheWayAgain inserts entries until no slot is free, the same ones among
// them, and removes some on the way.
func TestOnTheWayAgain(t *testing.T) { // P13.1, P13.2
	next := sequence(4)
	for i := range 12 {
		l := slices.Repeat([]shape{vacant}, 1+next(1+i*8))
		most := 1 + next(10)
		for slices.Contains(l, vacant) {
			l = checkOnTheWay(t, l, some(next, 1, most)[0])
			if next(4) == 0 {
				l[next(len(l))] = vacant
			}
		}
		x := some(next, 1, most)[0]
		if w, e := cao.Insert(slots(l, 0), x.make(0, 1)); len(w) != 0 || e != api.ErrFull {
			t.Fatalf("Insert of %v into %v: %v, %v", x, l, w, e)
		}
	}
}

// TestOnTheWayOfWords inserts words that overlap until one of them has no place.
func TestOnTheWayOfWords(t *testing.T) { // P13.1, P13.2
	next := sequence(5)
	for range 300 {
		l := slices.Repeat([]shape{vacant}, 1+next(20))
		for range 40 {
			x := loose(next, 1, 4, 30)[0]
			if c, e := inserted(l, x); len(c) == 0 {
				if w, no := cao.Insert(slots(l, 0), x.make(0, 1)); len(w) != 0 || no != e {
					t.Fatalf("Insert of %v into %v: %v, %v, not %v", x, l, w, no, e)
				}
				l[next(len(l))] = vacant
				continue
			}
			l = checkOnTheWay(t, l, x)
		}
	}
}

// TestMostWrites has as many writes as there can be: a copy for each entry of the
// longest chain, and one for the entry.
func TestMostWrites(t *testing.T) { // P13.1, P13.2
	x := shape{strings.Repeat("1", api.V6), api.V6}
	for many := 1; many <= api.V6; many++ {
		var below, above []shape
		for _, s := range nested(many-1, many) {
			below = append(below, s, shape{"0", 1})
		}
		for _, s := range nested(api.V6, many) {
			above = append(above, shape{"0", 1}, s)
		}
		checkMost(t, append(below[:2*many-1], vacant), x, many, 0)
		checkMost(t, append([]shape{vacant}, above...), shape{"", 0}, many, 2*many)
	}
}

// checkMost has an Insert that is written into some slot after so many copies.
func checkMost(t *testing.T, l []shape, x shape, copies, at int) {
	t.Helper()
	made := slots(l, 0)
	w, e := cao.Insert(made, x.make(0, 255))
	if e != api.OK || len(w) != copies+1 || w[copies].At != at || cao.Chain(bank.Entries(made)) != copies {
		t.Fatalf("Insert of %v into %v: %v, %v", x, l, w, e)
	}
	checkOnTheWay(t, l, x)
}

// TestLookups has different prefixes that cover one another: after each write an
// address has the action that it had, or the one that it has in the end.
func TestLookups(t *testing.T) { // P13.2
	next := sequence(6)
	for range 60 {
		l := make([]bank.Slot, 2+next(30))
		for range 99 {
			x := entry.Of(prefix.Make(addr.Addr{uint64(next(256)) << 56, 0}, next(9)), 1+next(255))
			if slices.ContainsFunc(bank.Entries(l), func(y entry.Entry) bool { return entry.Alike(x, y) }) {
				continue
			}
			w, e := cao.Insert(l, x)
			if full := bank.Free(l) == 0; full != (e == api.ErrFull) || !full && e != api.OK {
				t.Fatalf("Insert of %v: %v", x, e)
			}
			checkLookups(t, l, w)
			l = bank.Apply(l, w)
			if next(6) == 0 {
				l[next(len(l))] = bank.Slot{}
			}
		}
	}
}

// checkLookups asks for all addresses that differ in their first eight bits.
func checkLookups(t *testing.T, l []bank.Slot, w []bank.Write) {
	t.Helper()
	end := bank.Apply(l, w)
	for i := range w {
		after := bank.Apply(l, w[:i+1])
		for v := range uint64(256) {
			a := addr.Addr{v << 56, 1}
			if got := bank.Tell(after, a); got != bank.Tell(l, a) && got != bank.Tell(end, a) {
				t.Fatalf("after write %d of %v to %v, %v has the action %d", i, w, l, a, got)
			}
		}
	}
	for v := range uint64(256) {
		a := addr.Addr{v << 56, 1}
		if got, want := bank.Tell(end, a), entry.Tell(bank.Entries(end), a); got != want {
			t.Fatalf("after %v to %v, %v has the action %d, not %d", w, l, a, got, want)
		}
	}
}

// of is the entry of a prefix of V4.
func of(a uint64, n, action int) entry.Entry {
	return entry.Of(prefix.Make(addr.Addr{a << 32, 0}, n), action)
}

func TestExample(t *testing.T) { // example 1
	l := []bank.Slot{full(of(0x0a000000, 8, 1)), full(of(0, 0, 2)), {}}
	x := of(0x0a010000, 16, 3)
	want := []bank.Write{{At: 2, S: l[1]}, {At: 1, S: l[0]}, {At: 0, S: full(x)}}
	if got, e := cao.Insert(l, x); e != api.OK || !slices.Equal(got, want) {
		t.Errorf("the example: %v, %v", got, e)
	}
	if i, j := cao.Gap(l, x); i != 0 || j != 0 || !cao.Kept(l) || cao.Chain(bank.Entries(l)) != 2 {
		t.Errorf("the slots of the example: %d, %d, %t, %d", i, j, cao.Kept(l), cao.Chain(bank.Entries(l)))
	}
}

// TestThreeSlots is the first example of the whole document.
func TestThreeSlots(t *testing.T) { // P13.1
	l := make([]bank.Slot, 3)
	all := []entry.Entry{of(0, 0, 1), of(0x0a000000, 8, 2), of(0x0a010000, 16, 3)}
	for i, x := range all {
		w, e := cao.Insert(l, x)
		if len(w) != i+1 || e != api.OK {
			t.Errorf("Insert of entry %d: %v, %v", i, w, e)
		}
		l = bank.Apply(l, w)
	}
	if !slices.Equal(l, []bank.Slot{full(all[2]), full(all[1]), full(all[0])}) {
		t.Errorf("the slots: %v", l)
	}
	if w, e := cao.Insert(l, of(0x0b000000, 8, 4)); len(w) != 0 || e != api.ErrFull {
		t.Errorf("Insert of a fourth entry: %v, %v", w, e)
	}
}

// TestAlike inserts an entry that is in the slots already: it is added as any
// other one.
func TestAlike(t *testing.T) { // P13.1, P13.2
	x := of(0x0a000000, 8, 3)
	l := []bank.Slot{full(of(0x0a010000, 16, 1)), full(x), full(of(0, 0, 2)), {}}
	want := []bank.Write{{At: 3, S: l[2]}, {At: 2, S: full(x)}}
	if got, e := cao.Insert(l, x); e != api.OK || !slices.Equal(got, want) {
		t.Errorf("Insert of an entry again: %v, %v", got, e)
	}
	l = slices.Concat(slices.Repeat([]bank.Slot{full(x)}, 5), []bank.Slot{{}})
	y := of(0x0a010000, 16, 4)
	want = []bank.Write{{At: 5, S: full(x)}, {At: 0, S: full(y)}}
	if got, e := cao.Insert(l, y); e != api.OK || !slices.Equal(got, want) {
		t.Errorf("Insert before entries that are the same: %v, %v", got, e)
	}
	slices.Reverse(l)
	y = of(0, 0, 4)
	want = []bank.Write{{At: 0, S: full(x)}, {At: 5, S: full(y)}}
	if got, e := cao.Insert(l, y); e != api.OK || !slices.Equal(got, want) {
		t.Errorf("Insert behind entries that are the same: %v, %v", got, e)
	}
}

// TestMemory has slots with spare memory, which no call may touch, and changes
// what was returned, which may change nothing else.
func TestMemory(t *testing.T) { // P13.1
	next := sequence(7)
	for i := range 300 {
		many := 1 + i%40
		shapes := holes(next, ordered(next, some(next, many, 8)), 5, true)
		spare := slots(append(shapes, some(next, 20, 8)...), 0)
		were := slices.Clone(spare)
		l := spare[:many]
		x := some(next, 1, 8)[0].make(0, 255)
		got, e := cao.Insert(l, x)
		exact, too := cao.Insert(slices.Clip(slices.Clone(l)), x)
		if e != api.OK || too != api.OK || !slices.Equal(got, exact) {
			t.Fatalf("Insert depends on the memory behind %d slots", len(l))
		}
		cao.Kept(l)
		cao.Gap(l, x)
		clear(exact[:cap(exact)])
		again, _ := cao.Insert(l, x)
		was := slices.Clone(again)
		clear(got[:cap(got)])
		if !slices.Equal(spare, were) || !slices.Equal(again, was) {
			t.Fatalf("a result for %d slots shares memory", len(l))
		}
		clear(spare)
		if !slices.Equal(again, was) {
			t.Fatalf("a result for %d slots shares memory with them", len(l))
		}
		entries := bank.Entries(were)
		before := slices.Clone(entries)
		if cao.Chain(entries[:many/2]) != cao.Chain(slices.Clip(before[:many/2])) || !slices.Equal(entries, before) {
			t.Fatalf("Chain of %v touches the memory behind them", entries[:many/2])
		}
	}
}

// TestAgain has each call several times, with other capacities, and nil and empty
// lists, which are equivalent.
func TestAgain(t *testing.T) { // P13.1
	next := sequence(8)
	for range 300 {
		l := slots(holes(next, ordered(next, some(next, 1+next(60), 8)), 5, false), 0)
		x := some(next, 1, 8)[0].make(0, 255)
		want, no := cao.Insert(l, x)
		first, after := cao.Gap(l, x)
		most := cao.Chain(bank.Entries(l))
		for range 5 {
			l = slices.Grow(l, next(90))
			got, e := cao.Insert(l, x)
			i, j := cao.Gap(l, x)
			if e != no || !slices.Equal(got, want) || i != first || j != after || cao.Chain(bank.Entries(l)) != most {
				t.Fatalf("the results for %v differ", l)
			}
		}
	}
	if cao.Chain(nil) != 0 || cao.Chain([]entry.Entry{}) != 0 {
		t.Error("Chain of no entries")
	}
	x := of(0x0a000000, 8, 1)
	for _, l := range [][]bank.Slot{nil, {}, make([]bank.Slot, 0, 9), []bank.Slot{full(x), {}}[:0]} {
		first, after := cao.Gap(l, x)
		if !cao.Kept(l) || first != 0 || after != 0 {
			t.Errorf("no slots: %t, %d, %d", cao.Kept(l), first, after)
		}
		if w, e := cao.Insert(l, x); len(w) != 0 || e != api.ErrFull {
			t.Errorf("Insert into no slots: %v, %v", w, e)
		}
		if w, e := cao.Insert(l, entry.Entry{Len: -1, Action: 1}); len(w) != 0 || e != api.ErrBad {
			t.Errorf("Insert of an entry that is not valid into no slots: %v, %v", w, e)
		}
	}
}

// TestLongLists have far more slots than a bank, and far longer chains than valid
// entries can have.
func TestLongLists(t *testing.T) { // P13.1
	const many = 200_000
	var high, low, same []bank.Slot
	for k := range many {
		high = append(high, full(entry.Entry{Len: 2*many - k, Action: 1}))
		low = append(low, full(entry.Entry{Len: -1 - k, Action: 1}))
		same = append(same, full(of(uint64(k)<<8, 24, 1)))
	}
	for _, c := range []struct {
		name   string
		l      []bank.Slot
		x      entry.Entry
		writes int
		at     int
	}{
		{"one chain, from below", append(slices.Clone(low), bank.Slot{}), of(0, 0, 1), many + 1, 0},
		{"one chain, from above", append([]bank.Slot{{}}, high...), of(0, 0, 1), many + 1, many},
		{"all apart, from below", append(slices.Clone(same), bank.Slot{}), of(0, 25, 1), 2, 0},
		{"all apart, from above", append([]bank.Slot{{}}, same...), of(0, 0, 1), 2, many},
		{"all apart, in the gap", append(slices.Clone(same), bank.Slot{}), of(0, 24, 1), 1, many},
		{"no entry", make([]bank.Slot, many), of(0, 24, 1), 1, 0},
	} {
		w, e := cao.Insert(c.l, c.x)
		if e != api.OK || len(w) != c.writes || w[len(w)-1] != (bank.Write{At: c.at, S: full(c.x)}) {
			t.Errorf("%s: %d writes, %v", c.name, len(w), e)
		}
	}
	if !cao.Kept(high) || cao.Chain(bank.Entries(high)) != many || cao.Chain(bank.Entries(same)) != 1 {
		t.Error("Kept and Chain of long lists")
	}
	if w, e := cao.Insert(high, of(0, 8, 1)); len(w) != 0 || e != api.ErrFull {
		t.Errorf("Insert into a long list that is full: %d writes, %v", len(w), e)
	}
	slices.Reverse(high)
	if cao.Kept(high) || cao.Chain(bank.Entries(high)) != many {
		t.Error("a long list in reverse")
	}
}
