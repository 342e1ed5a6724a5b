package entry_test

import (
	"math"
	"slices"
	"testing"

	"pigeonhole/addr"
	"pigeonhole/entry"
	"pigeonhole/prefix"
	"pigeonhole/word"
)

const (
	all  = 128
	ones = ^uint64(0)
)

// lengths are edges of what an entry can have, and some that it cannot.
var lengths = []int{
	0, 1, 2, 8, 9, 31, 32, 33, 63, 64, 65, 126, 127, 128,
	-1, -2, -8, -64, -127, -128, -129, -256, -1<<32 + 8, math.MinInt32, math.MinInt, math.MinInt + 8,
	129, 130, 136, 255, 256, 256 + 8, 1000, 1<<16 + 8, 1<<32 + 8, math.MaxInt32, math.MaxInt - 1, math.MaxInt,
}

// actions are edges of what an entry can have, and some that it cannot.
var actions = []int{
	1, 2, 7, 127, 128, 254, 255,
	0, -1, -2, -255, -256, math.MinInt, math.MinInt + 1, -1<<32 + 1,
	256, 257, 511, 512, 1<<32 + 1, math.MaxInt32, math.MaxInt,
}

// sequence makes numbers without a pattern, always the same ones.
func sequence(seed uint64) func() uint64 {
	x := seed
	return func() uint64 {
		x = x*6364136223846793005 + 1442695040888963407
		return x ^ x>>29
	}
}

// spots are the bits that differ among the addresses and words of these tests:
// the edges of both halves of an address.
var spots = [4]int{0, 63, 64, 127}

// scattered has the bits of a number at the spots.
func scattered(a addr.Addr, v int) addr.Addr {
	for i, k := range spots {
		a = addr.With(a, k, v>>i&1 == 1)
	}
	return a
}

// base is what all addresses and words of these tests have outside the spots.
var base = scattered(addr.Addr{0x0a01020304050607, 0x70f1f2f3f4f5f6f7}, 0)

// addresses are all those that matter for the words of few.
func addresses() []addr.Addr {
	var l []addr.Addr
	for v := range 1 << len(spots) {
		l = append(l, scattered(base, v))
	}
	return l
}

// few are all words that have some values and masks at the spots, and tell all
// other bits. Many of them have bits of Value at free positions.
func few() []word.Word {
	var l []word.Word
	for _, a := range addresses() {
		for m := range 1 << len(spots) {
			l = append(l, word.Word{Value: a, Mask: scattered(addr.Addr{ones, ones}, m)})
		}
	}
	return l
}

// at is a word of few: its value and its mask at the spots.
func at(value, mask int) word.Word {
	return word.Word{Value: scattered(base, value), Mask: scattered(addr.Addr{ones, ones}, mask)}
}

// some are entries without a pattern: their words meet often, and their Lens
// and Actions are often the same.
func some(next func() uint64, many int) []entry.Entry {
	var l []entry.Entry
	for range many {
		l = append(l, entry.Entry{
			W:      at(int(next()>>40%16), int(next()>>40%16)),
			Len:    int(next() >> 40 % 4),
			Action: int(next()>>40%4) + 1,
		})
	}
	return l
}

// matches tells of each bit whether the address has it as the word does.
func matches(x word.Word, a addr.Addr) bool {
	for k := range all {
		if addr.Bit(x.Mask, k) && addr.Bit(x.Value, k) != addr.Bit(a, k) {
			return false
		}
	}
	return true
}

// precedes is the document's own definition, for words of few: each address
// that could be matched by both is tried.
func precedes(x, y entry.Entry) bool {
	both := func(a addr.Addr) bool { return matches(x.W, a) && matches(y.W, a) }
	return x.Len > y.Len && slices.ContainsFunc(addresses(), both)
}

// table holds which entries of a list must precede which others, so that
// definitions need not be evaluated again for each list of them.
func table(l []entry.Entry) [][]bool {
	t := make([][]bool, len(l))
	for i, x := range l {
		for _, y := range l {
			t[i] = append(t[i], precedes(x, y))
		}
	}
	return t
}

// lists calls f with all lists of up to a number of indices, each below n.
func lists(n, most int, f func(l []int)) {
	var longer func(l []int)
	longer = func(l []int) {
		f(l)
		for k := range n {
			if len(l) < most {
				longer(append(slices.Clone(l), k))
			}
		}
	}
	longer(nil)
}

// picked are the entries with some indices.
func picked(from []entry.Entry, l []int) []entry.Entry {
	var p []entry.Entry
	for _, k := range l {
		p = append(p, from[k])
	}
	return p
}

// samples are entries that overlap in all ways: with equal and with other Lens,
// words that are not valid, and Lens and Actions outside their ranges.
func samples() []entry.Entry {
	return []entry.Entry{
		{at(0, 0), 8, 1},
		{at(0, 15), 16, 2},
		{at(1, 1), 16, 3},
		{at(1, 0), 24, 0},
		{at(5, 1), 8, 256},
		{at(6, 6), 129, 4},
		{at(6, 9), -1, 5},
		{at(15, 0), math.MinInt, 6},
		{at(9, 15), math.MaxInt, -7},
	}
}

func TestRight(t *testing.T) { // P5.1
	words := []struct {
		w     word.Word
		valid bool
	}{
		{word.Word{}, true},
		{word.Word{Mask: addr.Addr{ones, ones}}, true},
		{word.Word{Value: addr.Addr{ones, ones}, Mask: addr.Addr{ones, ones}}, true},
		{word.Word{Value: addr.Addr{0x0a00000000000000, 0}, Mask: addr.Addr{0xff00000000000000, 0}}, true},
		{word.Word{Value: addr.Addr{1, 0}, Mask: addr.Addr{1, 1}}, true},
		{word.Word{Value: addr.Addr{0, 1}}, false},
		{word.Word{Value: addr.Addr{1 << 63, 0}}, false},
		{word.Word{Value: addr.Addr{0x0a01000000000000, 0}, Mask: addr.Addr{0xff00000000000000, 0}}, false},
		{word.Word{Value: addr.Addr{ones, ones}, Mask: addr.Addr{ones, ones - 1}}, false},
	}
	for _, c := range words {
		for _, n := range lengths {
			for _, action := range actions {
				want := c.valid && n >= 0 && n <= 128 && action >= 1 && action <= 255
				if got := entry.Right(entry.Entry{W: c.w, Len: n, Action: action}); got != want {
					t.Errorf("Right(%x, %d, %d): %t", c.w, n, action, got)
				}
			}
		}
	}
	if entry.Right(entry.Entry{}) {
		t.Error("Right of the zero entry, which has the Action 0")
	}
}

// TestRightAtEach has all Lens and Actions around those that are permitted.
func TestRightAtEach(t *testing.T) { // P5.1
	for n := -300; n <= 300; n++ {
		if got := entry.Right(entry.Entry{Len: n, Action: 1}); got != (n >= 0 && n <= 128) {
			t.Errorf("Right with the Len %d: %t", n, got)
		}
		if got := entry.Right(entry.Entry{Len: 8, Action: n}); got != (n >= 1 && n <= 255) {
			t.Errorf("Right with the Action %d: %t", n, got)
		}
	}
	for _, x := range few() {
		if got := entry.Right(entry.Entry{W: x, Len: 8, Action: 1}); got != word.Right(x) {
			t.Errorf("Right with the word %x: %t", x, got)
		}
	}
}

func TestOf(t *testing.T) { // P5.1
	addrs := append(addresses(), addr.Addr{}, addr.Addr{ones, ones}, addr.Addr{0x0a01000000000000, 0}, addr.Addr{0, ones}, addr.Addr{1, 0})
	ns := slices.Clone(lengths)
	for n := range all + 1 {
		ns = append(ns, n)
	}
	for _, a := range addrs {
		for _, n := range ns {
			p := prefix.Prefix{A: a, Len: n}
			for _, action := range actions {
				checkOf(t, p, action)
			}
		}
	}
}

// checkOf holds Of against the numbers of its prefix.
func checkOf(t *testing.T, p prefix.Prefix, action int) {
	t.Helper()
	n := min(max(p.Len, 0), all)
	mask := addr.Mask(n)
	want := entry.Entry{W: word.Word{Value: addr.And(p.A, mask), Mask: mask}, Len: n, Action: action}
	got := entry.Of(p, action)
	if got != want || got.W != word.Of(p) || got.Len != prefix.Make(p.A, p.Len).Len {
		t.Errorf("Of(%x/%d, %d): %x", p.A, p.Len, action, got)
	}
	if right := entry.Right(got); right != (action >= 1 && action <= 255) {
		t.Errorf("Right of Of(%x/%d, %d): %t", p.A, p.Len, action, right)
	}
}

func TestAbove(t *testing.T) { // P5.1
	words := few()
	lens := []int{math.MinInt, -1, 0, 8, 9, 128, 129, math.MaxInt}
	for i, w := range words {
		for j, v := range words {
			long, short := entry.Entry{W: w, Len: 1}, entry.Entry{W: v}
			meet := precedes(long, short)
			for _, n := range lens {
				for _, m := range lens {
					x := entry.Entry{W: w, Len: n, Action: i}
					y := entry.Entry{W: v, Len: m, Action: j}
					if got := entry.Above(x, y); got != (n > m && meet) {
						t.Errorf("Above(%x, %x): %t", x, y, got)
					}
				}
			}
		}
	}
}

// TestAboveAtEachBit has a word that tells one bit, and others that tell the
// same bit likewise or otherwise, or another bit.
func TestAboveAtEachBit(t *testing.T) { // P5.1
	for k := range all {
		one := addr.With(addr.Addr{}, k, true)
		x := entry.Entry{W: word.Word{Value: one, Mask: one}, Len: 9, Action: 1}
		for j := range all {
			mask := addr.With(addr.Addr{}, j, true)
			y := entry.Entry{W: word.Word{Mask: mask}, Len: 8, Action: 1}
			if got := entry.Above(x, y); got != (j != k) {
				t.Errorf("Above of the bits %d and %d: %t", k, j, got)
			}
			y.W.Value = mask
			if !entry.Above(x, y) || entry.Above(y, x) {
				t.Errorf("Above of the bits %d and %d, both set", k, j)
			}
		}
	}
}

func TestOrderedOfAllLists(t *testing.T) { // P5.1
	from := samples()
	above := table(from)
	lists(len(from), 4, func(l []int) {
		want := true
		for j := range l {
			for i := range j {
				want = want && !above[l[j]][l[i]]
			}
		}
		if got := entry.Ordered(picked(from, l)); got != want {
			t.Errorf("Ordered of the samples %d: %t", l, got)
		}
	})
}

func TestOrdered(t *testing.T) { // P5.1
	def, ten, one := of(0, 0, 1), of(0x0a000000, 8, 2), of(0x0a010000, 16, 3)
	eleven := of(0x0b000000, 8, 4)
	tests := []struct {
		name string
		l    []entry.Entry
		want bool
	}{
		{"nil", nil, true},
		{"empty", []entry.Entry{}, true},
		{"one", []entry.Entry{one}, true},
		{"one that is not valid", []entry.Entry{{W: word.Word{Value: addr.Addr{1, 1}}, Len: -1}}, true},
		{"sorted", []entry.Entry{one, ten, eleven, def}, true},
		{"not sorted but ordered", []entry.Entry{eleven, one, ten, def}, true},
		{"equal Lens, not sorted", []entry.Entry{eleven, ten}, true},
		{"the same entry twice", []entry.Entry{ten, ten}, true},
		{"the same word, the longer one first", []entry.Entry{{ten.W, 9, 1}, {ten.W, 8, 1}}, true},
		{"the same word, the longer one last", []entry.Entry{{ten.W, 8, 1}, {ten.W, 9, 1}}, false},
		{"neighbors", []entry.Entry{ten, one}, false},
		{"the first one is too early", []entry.Entry{ten, eleven, one}, false},
		{"the last one is too late", []entry.Entry{eleven, ten, def, one}, false},
		{"the first one must come last", []entry.Entry{def, one, ten, eleven}, false},
		{"in the middle alone", []entry.Entry{one, def, ten, def}, false},
		{"behind a longer one that is apart", []entry.Entry{one, def, eleven}, false},
		{"the Action does not count", []entry.Entry{{ten.W, 8, 9}, {ten.W, 8, 1}}, true},
		{"below 0", []entry.Entry{{ten.W, -2, 1}, {ten.W, -1, 1}}, false},
		{"below 0, ordered", []entry.Entry{{ten.W, -1, 1}, {ten.W, -2, 1}}, true},
		{"the least Len", []entry.Entry{{ten.W, math.MinInt, 1}, {ten.W, math.MinInt + 1, 1}}, false},
		{"the least Len last", []entry.Entry{{ten.W, math.MinInt + 1, 1}, {ten.W, math.MinInt, 1}}, true},
		{"the greatest Len", []entry.Entry{{ten.W, math.MinInt, 1}, {ten.W, math.MaxInt, 1}}, false},
		{"above 128", []entry.Entry{{ten.W, 128, 1}, {ten.W, 129, 1}}, false},
		{"words that are not valid and meet", []entry.Entry{
			{word.Word{Value: addr.Addr{0x0a00000000000000, 1}, Mask: ten.W.Mask}, 8, 1},
			{word.Word{Value: addr.Addr{0x0a00000000000000, 2}, Mask: ten.W.Mask}, 9, 1},
		}, false},
	}
	for _, c := range tests {
		if got := entry.Ordered(c.l); got != c.want {
			t.Errorf("%s: %t", c.name, got)
		}
	}
}

// TestFindingInAllLists holds First, Best and Tell against the document's own
// definitions, for all short lists of samples.
func TestFindingInAllLists(t *testing.T) { // P5.1
	from := samples()
	for _, a := range append(addresses(), addr.Addr{}) {
		match := make([]bool, len(from))
		for k, x := range from {
			match[k] = matches(x.W, a)
		}
		lists(len(from), 4, func(l []int) {
			checkFinding(t, picked(from, l), a, func(i int) bool { return match[l[i]] })
		})
	}
}

// checkFinding holds the three ways to find an entry against a list whose
// entries match as a function tells.
func checkFinding(t *testing.T, l []entry.Entry, a addr.Addr, match func(i int) bool) {
	t.Helper()
	first, best, found, action := 0, 0, false, 0
	for i := len(l) - 1; i >= 0; i-- {
		if !match(i) {
			continue
		}
		if !found || l[i].Len >= l[best].Len {
			best, action = i, l[i].Action
		}
		first, found = i, true
	}
	if i, ok := entry.First(l, a); i != first || ok != found {
		t.Errorf("First(%x, %x): %d, %t, not %d, %t", l, a, i, ok, first, found)
	}
	if i, ok := entry.Best(l, a); i != best || ok != found {
		t.Errorf("Best(%x, %x): %d, %t, not %d, %t", l, a, i, ok, best, found)
	}
	if got := entry.Tell(l, a); got != action {
		t.Errorf("Tell(%x, %x): %d, not %d", l, a, got, action)
	}
}

func TestFinding(t *testing.T) { // P5.1
	ten, eleven := four(0x0a000001), four(0x0b000001)
	short, long, other := of(0x0a000000, 8, 1), of(0x0a000000, 9, 2), of(0x0b000000, 24, 3)
	tests := []struct {
		name        string
		l           []entry.Entry
		a           addr.Addr
		first, best int
		found       bool
		action      int
	}{
		{"nil", nil, ten, 0, 0, false, 0},
		{"empty", []entry.Entry{}, ten, 0, 0, false, 0},
		{"none matches", []entry.Entry{short, long, short}, eleven, 0, 0, false, 0},
		{"the first one of one", []entry.Entry{short}, ten, 0, 0, true, 1},
		{"the first one is the best one", []entry.Entry{long, short}, ten, 0, 0, true, 2},
		{"the last one is the best one", []entry.Entry{other, short, short, long}, ten, 1, 3, true, 2},
		{"a longer one that does not match", []entry.Entry{short, other, short}, ten, 0, 0, true, 1},
		{"behind a longer one that does not match", []entry.Entry{other, short, long}, ten, 1, 2, true, 2},
		{"several of the same Len", []entry.Entry{other, short, long, {long.W, 9, 5}, {short.W, 9, 6}}, ten, 1, 2, true, 2},
		{"the Action 0", []entry.Entry{{short.W, 8, 0}, {short.W, 7, 1}}, ten, 0, 0, true, 0},
		{"the Action 256", []entry.Entry{{short.W, 8, 256}}, ten, 0, 0, true, 256},
		{"an Action below 0", []entry.Entry{{short.W, 8, -3}}, ten, 0, 0, true, -3},
		{"Lens below 0", []entry.Entry{{short.W, math.MinInt, 1}, {short.W, -9, 2}, {short.W, -8, 3}, {short.W, -8, 4}}, ten, 0, 2, true, 3},
		{"a Len above 128", []entry.Entry{{short.W, 128, 1}, {short.W, 129, 2}, {short.W, math.MaxInt, 3}}, ten, 0, 2, true, 3},
		{"a word that is not valid", []entry.Entry{{word.Word{Value: addr.Addr{0x0affffffffffffff, 9}, Mask: short.W.Mask}, 8, 4}}, ten, 0, 0, true, 4},
	}
	for _, c := range tests {
		if i, ok := entry.First(c.l, c.a); i != c.first || ok != c.found {
			t.Errorf("First, %s: %d, %t", c.name, i, ok)
		}
		if i, ok := entry.Best(c.l, c.a); i != c.best || ok != c.found {
			t.Errorf("Best, %s: %d, %t", c.name, i, ok)
		}
		if got := entry.Tell(c.l, c.a); got != c.action {
			t.Errorf("Tell, %s: %d", c.name, got)
		}
	}
}

// ranked are entries in the order of Compare, each of which comes before all
// that follow. Neighbors differ in one of Len, Value, Mask and Action alone, or
// in one that counts and, the other way, in all that do not count any more.
func ranked() []entry.Entry {
	low, high := addr.Addr{0, 5}, addr.Addr{0, 6}
	return []entry.Entry{
		{word.Word{Value: high, Mask: high}, math.MaxInt, 2},
		{word.Word{Value: high, Mask: high}, 129, 2},
		{word.Word{Value: high, Mask: high}, 9, 2},
		{word.Word{Value: low, Mask: low}, 8, 1},
		{word.Word{Value: low, Mask: low}, 8, 2},
		{word.Word{Value: low, Mask: high}, 8, 1},
		{word.Word{Value: high, Mask: low}, 8, 1},
		{word.Word{Value: high, Mask: high}, 8, math.MinInt},
		{word.Word{Value: high, Mask: high}, 8, -1},
		{word.Word{Value: high, Mask: high}, 8, 0},
		{word.Word{Value: high, Mask: high}, 8, 1},
		{word.Word{Value: high, Mask: high}, 8, 255},
		{word.Word{Value: high, Mask: high}, 8, 256},
		{word.Word{Value: high, Mask: high}, 8, math.MaxInt},
		{word.Word{Value: high, Mask: addr.Addr{1, 0}}, 8, 1},
		{word.Word{Value: high, Mask: addr.Addr{1 << 63, 0}}, 8, 1},
		{word.Word{Value: addr.Addr{1, 0}, Mask: low}, 8, 1},
		{word.Word{Value: addr.Addr{1 << 63, 0}, Mask: low}, 8, 1},
		{word.Word{Value: addr.Addr{ones, ones}, Mask: addr.Addr{ones, ones}}, 8, 1},
		{word.Word{Value: low, Mask: low}, 7, 1},
		{word.Word{Value: low, Mask: low}, 0, 1},
		{word.Word{Value: low, Mask: low}, -1, 1},
		{word.Word{Value: low, Mask: low}, math.MinInt, 1},
	}
}

func TestCompare(t *testing.T) { // P5.2
	l := ranked()
	for i, x := range l {
		for j, y := range l {
			want := 0
			if i < j {
				want = -1
			} else if i > j {
				want = 1
			}
			if got := entry.Compare(x, y); got != want {
				t.Errorf("Compare(%x, %x): %d, not %d", x, y, got, want)
			}
		}
	}
}

// TestCompareAtEachBit turns one bit of an entry's Value or Mask, where the
// entry with this bit comes later.
func TestCompareAtEachBit(t *testing.T) { // P5.2
	for _, a := range []addr.Addr{{}, {ones, ones}, base} {
		for k := range all {
			less, more := addr.With(a, k, false), addr.With(a, k, true)
			for _, b := range []addr.Addr{less, more} {
				x := entry.Entry{W: word.Word{Value: less, Mask: b}, Len: 8, Action: 1}
				y := entry.Entry{W: word.Word{Value: more, Mask: less}, Len: 8, Action: 1}
				checkBefore(t, x, y)
				x = entry.Entry{W: word.Word{Value: b, Mask: less}, Len: 8, Action: 2}
				y = entry.Entry{W: word.Word{Value: b, Mask: more}, Len: 8, Action: 1}
				checkBefore(t, x, y)
			}
		}
	}
}

// TestCompareNumbers has all pairs of Lens, and all pairs of Actions.
func TestCompareNumbers(t *testing.T) { // P5.2
	w := at(3, 7)
	for _, n := range append(slices.Clone(lengths), actions...) {
		for _, m := range append(slices.Clone(lengths), actions...) {
			if n < m {
				checkBefore(t, entry.Entry{W: w, Len: m, Action: n}, entry.Entry{W: w, Len: n, Action: m})
				checkBefore(t, entry.Entry{W: w, Len: m, Action: m}, entry.Entry{W: w, Len: n, Action: n})
				checkBefore(t, entry.Entry{W: w, Len: 8, Action: n}, entry.Entry{W: w, Len: 8, Action: m})
			}
		}
		x := entry.Entry{W: w, Len: n, Action: n}
		if got := entry.Compare(x, x); got != 0 {
			t.Errorf("Compare of %x with itself: %d", x, got)
		}
	}
}

// checkBefore holds Compare of two entries, in both ways, against an order.
func checkBefore(t *testing.T, x, y entry.Entry) {
	t.Helper()
	if a, b := entry.Compare(x, y), entry.Compare(y, x); a != -1 || b != 1 {
		t.Errorf("Compare of %x and %x: %d, %d", x, y, a, b)
	}
}

// TestSort sorts the entries of ranked from many orders, some of them several
// times.
func TestSort(t *testing.T) { // P5.2
	next := sequence(3)
	for round := range 200 {
		l := ranked()
		want := ranked()
		if round%2 == 1 {
			want = nil
			for _, x := range l {
				for range next()>>40%4 + 1 {
					want = append(want, x)
				}
			}
			l = slices.Clone(want)
		}
		shuffle(l, next)
		if got := entry.Sort(l); !slices.Equal(got, want) {
			t.Errorf("Sort(%x): %x", l, got)
		}
	}
	for _, l := range [][]entry.Entry{nil, {}} {
		if got := entry.Sort(l); len(got) != 0 {
			t.Errorf("Sort of an empty list: %x", got)
		}
	}
	if l := ranked(); !slices.Equal(entry.Sort(l[:1]), l[:1]) || !slices.Equal(entry.Sort(l), l) {
		t.Error("Sort of a list that is sorted")
	}
}

// shuffle brings a list into an order without a pattern.
func shuffle(l []entry.Entry, next func() uint64) {
	for i := range l {
		j := int(next() >> 33 % uint64(i+1))
		l[i], l[j] = l[j], l[i]
	}
}

// TestSortOfAllOrders has all orders of few entries.
func TestSortOfAllOrders(t *testing.T) { // P5.2
	from := ranked()[2:7]
	lists(len(from), len(from), func(l []int) {
		order := slices.Clone(l)
		slices.Sort(order)
		if got := entry.Sort(picked(from, l)); !slices.Equal(got, picked(from, order)) {
			t.Errorf("Sort of %d: %x", l, got)
		}
	})
}

// TestSortLeavesList holds the list that was handed in, with the memory behind
// its end, against what it was, before and after the result is changed.
func TestSortLeavesList(t *testing.T) { // P5.2
	for n := range 40 {
		whole := some(sequence(5), 48)
		was := slices.Clone(whole)
		got := entry.Sort(whole[:n])
		if !slices.Equal(whole, was) {
			t.Fatalf("Sort of %d entries has changed what it was handed", n)
		}
		want := slices.Clone(got)
		for i := range whole {
			whole[i].Action += 100
		}
		if !slices.Equal(got, want) {
			t.Fatalf("Sort of %d entries has kept what it was handed", n)
		}
		changed := slices.Clone(whole)
		for i := range got[:cap(got)] {
			got[:cap(got)][i] = entry.Entry{}
		}
		if !slices.Equal(whole, changed) {
			t.Fatalf("the result of Sort of %d entries shares memory with the list", n)
		}
	}
}

// TestSortIsNew has two results for one list.
func TestSortIsNew(t *testing.T) { // P5.2
	l := ranked()
	one, two := entry.Sort(l), entry.Sort(l)
	for i := range one {
		one[i] = entry.Entry{}
	}
	if !slices.Equal(two, ranked()) || !slices.Equal(l, ranked()) {
		t.Error("two results of Sort share memory")
	}
}

func TestAlike(t *testing.T) { // P5.2
	x := entry.Entry{W: at(5, 7), Len: 8, Action: 1}
	other := func(change func(x *entry.Entry)) entry.Entry {
		y := x
		change(&y)
		return y
	}
	tests := []struct {
		name string
		y    entry.Entry
		want bool
	}{
		{"the same one", x, true},
		{"another Action", other(func(x *entry.Entry) { x.Action = 2 }), true},
		{"the Action 0", other(func(x *entry.Entry) { x.Action = 0 }), true},
		{"the Action 256", other(func(x *entry.Entry) { x.Action = 256 }), true},
		{"another Len", other(func(x *entry.Entry) { x.Len = 9 }), false},
		{"a Len below 0", other(func(x *entry.Entry) { x.Len = -8 }), false},
		{"a Len above 128", other(func(x *entry.Entry) { x.Len = 256 + 8 }), false},
		{"another Value", other(func(x *entry.Entry) { x.W = at(4, 7) }), false},
		{"another Value at a free bit", other(func(x *entry.Entry) { x.W = at(5|8, 7) }), false},
		{"another Mask", other(func(x *entry.Entry) { x.W = at(5, 15) }), false},
		{"all others", entry.Entry{}, false},
	}
	for _, c := range tests {
		if a, b := entry.Alike(x, c.y), entry.Alike(c.y, x); a != c.want || b != c.want {
			t.Errorf("%s: %t, %t", c.name, a, b)
		}
	}
}

// TestAlikeAtEachBit turns one bit of an entry's Value or Mask.
func TestAlikeAtEachBit(t *testing.T) { // P5.2
	for k := range all {
		x := entry.Entry{W: at(5, 7), Len: 8, Action: 1}
		y, z := x, x
		y.W.Value = addr.With(y.W.Value, k, !addr.Bit(y.W.Value, k))
		z.W.Mask = addr.With(z.W.Mask, k, !addr.Bit(z.W.Mask, k))
		if entry.Alike(x, y) || entry.Alike(x, z) || !entry.Alike(y, y) || !entry.Alike(z, z) {
			t.Errorf("Alike with the bit %d turned", k)
		}
	}
}

// TestAlikeAndCompare holds one against the other one: entries that are the same
// in all are alike, and those that are alike differ in the Action at most.
func TestAlikeAndCompare(t *testing.T) { // P5.2
	l := append(some(sequence(17), 300), ranked()...)
	for _, x := range l {
		for _, y := range l {
			alike, c := entry.Alike(x, y), entry.Compare(x, y)
			y.Action = x.Action
			if alike != (x == y) || alike != (entry.Compare(x, y) == 0) || c == 0 && !alike {
				t.Errorf("Alike(%x, %x): %t", x, y, alike)
			}
		}
	}
}

// TestOrderedLists tries all addresses on all ordered lists of some samples.
func TestOrderedLists(t *testing.T) { // P5.3
	from := samples()
	addrs := append(addresses(), addr.Addr{})
	ordered, sortedToo := 0, 0
	lists(len(from), 4, func(indices []int) {
		l := picked(from, indices)
		if !entry.Ordered(l) {
			return
		}
		ordered++
		if slices.IsSortedFunc(l, entry.Compare) {
			sortedToo++
		}
		for _, a := range addrs {
			checkFirstIsBest(t, l, a)
		}
	})
	if sortedToo == 0 || sortedToo == ordered {
		t.Errorf("of %d ordered lists %d are sorted", ordered, sortedToo)
	}
}

// checkFirstIsBest holds the first entry that matches against the best one.
func checkFirstIsBest(t *testing.T, l []entry.Entry, a addr.Addr) {
	t.Helper()
	first, isFirst := entry.First(l, a)
	best, isBest := entry.Best(l, a)
	if first != best || isFirst != isBest {
		t.Errorf("of %x for %x: the first one %d, %t, the best one %d, %t", l, a, first, isFirst, best, isBest)
	}
	if isFirst && l[first].Action != entry.Tell(l, a) {
		t.Errorf("of %x for %x: Tell is not the Action of the first one", l, a)
	}
}

// TestUnorderedLists finds an address that tells the first one from the best
// one in lists of two that are not ordered.
func TestUnorderedLists(t *testing.T) { // P5.3
	words := few()
	for i, w := range words {
		v := words[(i*7+3)%len(words)]
		l := []entry.Entry{{w, 8, 1}, {v, 9, 2}}
		tells := slices.ContainsFunc(addresses(), func(a addr.Addr) bool {
			first, _ := entry.First(l, a)
			best, _ := entry.Best(l, a)
			return first != best
		})
		if entry.Ordered(l) == tells {
			t.Errorf("Ordered(%x): %t", l, !tells)
		}
	}
}

func TestSortedIsOrdered(t *testing.T) { // P5.3
	next := sequence(23)
	addrs := append(addresses(), addr.Addr{})
	for range 300 {
		l := append(some(next, int(next()>>40%24)), samples()...)
		shuffle(l, next)
		sorted := entry.Sort(l)
		if !entry.Ordered(sorted) {
			t.Errorf("Sort(%x): %x is not ordered", l, sorted)
		}
		for _, a := range addrs {
			checkFirstIsBest(t, sorted, a)
			checkSameLen(t, l, sorted, a)
		}
	}
}

// checkSameLen holds the best entries of a list and of the sorted list against
// each other: which one of several is the first one may differ, but not its Len.
func checkSameLen(t *testing.T, l, sorted []entry.Entry, a addr.Addr) {
	t.Helper()
	i, ok := entry.Best(l, a)
	k, too := entry.Best(sorted, a)
	if ok != too || ok && l[i].Len != sorted[k].Len {
		t.Errorf("Best(%x, %x): %d, %t, and sorted %d, %t", l, a, i, ok, k, too)
	}
}

// TestNothingIsChanged calls everything that takes a list, and holds the list,
// with the memory behind its end, against what it was.
func TestNothingIsChanged(t *testing.T) { // P5.1, P5.2
	whole := append(samples(), some(sequence(29), 20)...)
	was := slices.Clone(whole)
	for n := range whole {
		l := whole[:n]
		for _, a := range addresses() {
			exact := slices.Clip(slices.Clone(l))
			if entry.Tell(l, a) != entry.Tell(exact, a) || entry.Ordered(l) != entry.Ordered(exact) {
				t.Errorf("the results for %d entries depend on the memory behind them", n)
			}
			entry.First(l, a)
			entry.Best(l, a)
		}
		if !slices.Equal(entry.Sort(l), entry.Sort(slices.Clip(l))) || !slices.Equal(whole, was) {
			t.Errorf("a call with %d entries has changed them", n)
		}
	}
}

func TestLongLists(t *testing.T) { // P5.1, P5.2, P5.3
	const many = 200_000
	next := sequence(31)
	var l []entry.Entry
	for i := range many {
		l = append(l, entry.Of(prefix.Make(addr.Addr{next(), next()}, int(next()>>40%129)), i%255+1))
	}
	sorted := entry.Sort(l)
	if len(sorted) != many || !slices.IsSortedFunc(sorted, entry.Compare) || !entry.Ordered(sorted) {
		t.Error("a long list is not sorted, or not ordered")
	}
	last := sorted[many-1]
	if last.Len != 0 {
		t.Fatalf("the last entry has the Len %d", last.Len)
	}
	for _, a := range []addr.Addr{{}, {ones, ones}, base, l[0].W.Value} {
		checkFirstIsBest(t, sorted, a)
		checkSameLen(t, l, sorted, a)
	}
	slices.Reverse(sorted)
	if entry.Ordered(sorted) {
		t.Error("a long list in reverse is ordered")
	}
}

// TestLongListsOfOne have a single entry that matches, or that is misplaced, at
// the beginning, in the middle or at the end.
func TestLongListsOfOne(t *testing.T) { // P5.1
	const many = 2000
	for _, k := range []int{0, 1, many / 2, many - 2, many - 1} {
		l := make([]entry.Entry, many)
		for i := range l {
			a := addr.Addr{uint64(i), 0}
			l[i] = entry.Entry{W: word.Word{Value: a, Mask: addr.Addr{ones, 0}}, Len: i, Action: 1}
		}
		if !entry.Ordered(l) {
			t.Error("entries that are apart are not ordered")
		}
		one := entry.Entry{W: word.Word{Value: addr.Addr{many, 0}, Mask: addr.Addr{ones, 0}}, Len: 8, Action: 77}
		l[k] = one
		i, ok := entry.First(l, one.W.Value)
		j, too := entry.Best(l, one.W.Value)
		if i != k || !ok || j != k || !too || entry.Tell(l, one.W.Value) != 77 {
			t.Errorf("the entry at %d: %d, %t, %d, %t", k, i, ok, j, too)
		}
		for _, n := range []int{-1, many} {
			l[k] = entry.Entry{Len: n, Action: 1}
			want := n == many && k == 0 || n == -1 && k == many-1
			if got := entry.Ordered(l); got != want {
				t.Errorf("Ordered with an entry of Len %d that matches all at %d: %t", n, k, got)
			}
		}
	}
}

// four is an address of V4.
func four(a uint64) addr.Addr { return addr.Addr{a << 32, 0} }

// of is the entry of a prefix of V4.
func of(a uint64, n, action int) entry.Entry {
	return entry.Of(prefix.Prefix{A: four(a), Len: n}, action)
}

func TestExample(t *testing.T) { // example 1
	long, short := of(0x0a010000, 16, 1), of(0x0a000000, 8, 1)
	if !entry.Above(long, short) || entry.Above(short, long) {
		t.Error("Above of 10.1.0.0/16 and 10.0.0.0/8")
	}
	if entry.Above(long, long) || entry.Above(of(0x0b010000, 16, 1), short) {
		t.Error("Above of the same entry, or of entries that are apart")
	}
	if l := []entry.Entry{long, short}; !slices.Equal(entry.Sort([]entry.Entry{short, long}), l) {
		t.Errorf("Sort of 10.0.0.0/8 and 10.1.0.0/16: %x", entry.Sort(l))
	}
}
