package split_test

import (
	"math"
	"slices"
	"testing"

	"pigeonhole/addr"
	"pigeonhole/entry"
	"pigeonhole/prefix"
	"pigeonhole/split"
	"pigeonhole/word"
)

const (
	all  = 128
	ones = ^uint64(0)
)

// strange are numbers that are neither those of bits of an index nor of a bank;
// some of them become one if they are cut to fewer bits, or negated.
var strange = []int{
	math.MinInt, math.MinInt + 1, math.MinInt + 3, math.MinInt32, -1 << 32, -1<<32 + 1, -1<<32 + 3, -257, -256, -255, -254, -253, -128, -127, -64, -63, -62, -61, -8, -7, -5, -4, -3, -2, -1,
	61, 62, 63, 64, 65, 66, 67, 127, 128, 129, 131, 255, 256, 257, 258, 259, 1 << 16, 1<<16 + 1, 1<<16 + 3, 1 << 31, 1 << 32, 1<<32 + 1, 1<<32 + 2, 1<<32 + 3, math.MaxInt - 1, math.MaxInt,
}

// wrong are numbers of bits that no index has.
func wrong() []int { return append(slices.Clone(strange), 4, 5, 6, 7, 8, 9, 16, 32) }

// sequence makes numbers without a pattern, always the same ones.
func sequence(seed uint64) func() uint64 {
	x := seed
	return func() uint64 {
		x = x*6364136223846793005 + 1442695040888963407
		return x ^ x>>29
	}
}

// flipped is an address with one bit turned.
func flipped(a addr.Addr, k int) addr.Addr {
	a[k/64] ^= 1 << (63 - k%64)
	return a
}

// many is how many banks an index of the chapter has.
var many = [4]int{1, 2, 4, 8}

// bankOf is the chapter's own definition: the first k bits, read as a number.
func bankOf(k int, a addr.Addr) int {
	n := 0
	for i := range k {
		n = 2*n + int(a[0]>>(63-i)&1)
	}
	return n
}

// matches is the definition of layer 4: the address has the bits of Value wherever
// Mask is set.
func matches(x word.Word, a addr.Addr) bool {
	for i := range a {
		if (x.Value[i]^a[i])&x.Mask[i] != 0 {
			return false
		}
	}
	return true
}

// banksOf is the chapter's own definition: the banks of addresses that the word
// matches. It tries all first four bits, with the others as the word's Value has
// them, which is one of the ways to match them.
func banksOf(k int, x word.Word) []int {
	var l []int
	for first := range uint64(16) {
		a := addr.Addr{x.Value[0]&(ones>>4) | first<<60, x.Value[1]}
		if at := bankOf(k, a); matches(x, a) && !slices.Contains(l, at) {
			l = append(l, at)
		}
	}
	slices.Sort(l)
	return l
}

// rests are what addresses and words have behind their first four bits: a Value
// and a Mask, or an address and anything.
func rests() [][2]addr.Addr {
	return [][2]addr.Addr{
		{},
		{{}, {ones >> 4, ones}},
		{{ones >> 4, ones}, {ones >> 4, ones}},
		{{ones >> 4, ones}, {}},
		{{0x0a01020304050607, 0x70f1f2f3f4f5f6f7}, {0x0fffffff00000000, 0}},
		{{0x05a5a5a5a5a5a5a5, 0xa5a5a5a5a5a5a5a5}, {0x00f0f0f0f0f0f0f0, 0xf0f0f0f0f0f0f0f0}},
		{{0x0800000000000000, 1}, {0x0800000000000000, 1}},
		{{0, ones}, {0, 0xf000000000000000}},
	}
}

// words are all that have some Value and Mask at the first four bits, with a rest.
// Many of them have bits of Value at free positions.
func words(rest [2]addr.Addr) []word.Word {
	var l []word.Word
	for value := range uint64(16) {
		for mask := range uint64(16) {
			l = append(l, word.Word{
				Value: addr.Addr{rest[0][0] | value<<60, rest[0][1]},
				Mask:  addr.Addr{rest[1][0] | mask<<60, rest[1][1]},
			})
		}
	}
	return l
}

// addresses are all first four bits, with each rest.
func addresses() []addr.Addr {
	var l []addr.Addr
	for first := range uint64(16) {
		for _, rest := range rests() {
			l = append(l, addr.Addr{rest[0][0] | first<<60, rest[0][1]})
		}
	}
	return l
}

// shaped is an entry whose word is a text of 0, 1 and dots for free bits.
func shaped(text string, n, action int) entry.Entry {
	x := entry.Entry{Len: n, Action: action}
	for k, c := range text {
		if c != '.' {
			x.W.Mask = flipped(x.W.Mask, k)
		}
		if c == '1' {
			x.W.Value = flipped(x.W.Value, k)
		}
	}
	return x
}

// letters are the entries of which the lists of these tests consist: words of
// prefixes and merged ones, entries that are alike, and some that are not valid.
func letters() []entry.Entry {
	litter := shaped(".0", 2, 9)
	litter.W.Value = addr.Addr{ones, ones}
	litter.W.Value = flipped(litter.W.Value, 1)
	return []entry.Entry{
		shaped("", 0, 1),
		shaped("", 0, 2),
		shaped("0", 1, 3),
		shaped("10", 2, 4),
		shaped("111", 3, 5),
		shaped("1110", 4, 6),
		shaped("..1", 3, 7),
		shaped(".1.0", 4, 8),
		litter,
		shaped("01", math.MinInt, 0),
		shaped("1.0", math.MaxInt, -300),
	}
}

// lists calls f with all lists of up to so many of some things.
func lists[T any](from []T, most int, f func(l []T)) {
	var longer func(l []T)
	longer = func(l []T) {
		f(l)
		for _, x := range from {
			if len(l) < most {
				longer(append(slices.Clone(l), x))
			}
		}
	}
	longer(nil)
}

// some are entries without a pattern; most of their words leave some of the first
// bits free.
func some(next func() uint64, many int) []entry.Entry {
	var l []entry.Entry
	for range many {
		l = append(l, entry.Entry{
			W: word.Word{
				Value: addr.Addr{next(), next()},
				Mask:  addr.Addr{next() & next(), next() & next()},
			},
			Len:    int(next() >> 40 % 6),
			Action: int(next()>>40%4) + 1,
		})
	}
	return l
}

// partOf and copiesOf are the chapter's own definitions.
func partOf(k, at int, l []entry.Entry) []entry.Entry {
	var part []entry.Entry
	for _, x := range l {
		if slices.Contains(banksOf(k, x.W), at) {
			part = append(part, x)
		}
	}
	return part
}

func copiesOf(k int, l []entry.Entry) int {
	n := 0
	for _, x := range l {
		n += len(banksOf(k, x.W)) - 1
	}
	return n
}

// told is the definition of layer 5: of the entries that match, the longest one,
// and of several the first.
func told(l []entry.Entry, a addr.Addr) int {
	var best *entry.Entry
	for i, x := range l {
		if matches(x.W, a) && (best == nil || x.Len > best.Len) {
			best = &l[i]
		}
	}
	if best == nil {
		return 0
	}
	return best.Action
}

// checkList holds Part and Copies against the definitions, for all banks and for
// some that there are not.
func checkList(t *testing.T, k int, l []entry.Entry) {
	t.Helper()
	was := slices.Clone(l)
	stand := 0
	for at := -2; at < 12; at++ {
		part, want := split.Part(k, at, l), partOf(k, at, l)
		if !slices.Equal(part, want) {
			t.Fatalf("Part(%d, %d, %v): %v, not %v", k, at, l, part, want)
		}
		stand += len(part)
	}
	if n, want := split.Copies(k, l), copiesOf(k, l); n != want || n != stand-len(l) {
		t.Fatalf("Copies(%d, %v): %d, not %d; %d stand in the banks", k, l, n, want, stand)
	}
	if !slices.Equal(l, was) {
		t.Fatalf("Part or Copies has changed the list %v", was)
	}
}

// checkTold asks an address of a list, and of the Part of its bank.
func checkTold(t *testing.T, k int, l []entry.Entry, a addr.Addr) {
	t.Helper()
	part := split.Part(k, split.Of(k, a), l)
	want := told(l, a)
	if got := entry.Tell(part, a); got != want || entry.Tell(l, a) != want {
		t.Fatalf("index %d, %x: %v tells %d, and %v tells %d, not %d", k, a, part, got, l, entry.Tell(l, a), want)
	}
}

func TestRight(t *testing.T) { // P16.1
	for k := -300; k <= 300; k++ {
		if got := split.Right(k); got != (k == 0 || k == 1 || k == 2 || k == 3) {
			t.Errorf("Right(%d): %t", k, got)
		}
	}
	for _, k := range wrong() {
		if split.Right(k) {
			t.Errorf("Right(%d)", k)
		}
	}
}

func TestMany(t *testing.T) { // P16.1
	for k, want := range many {
		if got := split.Many(k); got != want {
			t.Errorf("Many(%d): %d", k, got)
		}
	}
}

// TestWrong has numbers of bits that no index has, in every call.
func TestWrong(t *testing.T) { // P16.1
	l := letters()
	for k := -300; k <= 300; k++ {
		if k < 0 || k > 3 {
			checkWrong(t, k, l)
		}
	}
	for _, k := range wrong() {
		checkWrong(t, k, l)
	}
}

func checkWrong(t *testing.T, k int, l []entry.Entry) {
	t.Helper()
	if n := split.Many(k); n != 0 {
		t.Fatalf("Many(%d): %d", k, n)
	}
	for _, a := range []addr.Addr{{}, {1 << 63}, {ones, ones}, {0, 1 << 63}} {
		if at := split.Of(k, a); at != 0 {
			t.Errorf("Of(%d, %x): %d", k, a, at)
		}
	}
	for _, x := range l {
		if banks := split.Banks(k, x.W); len(banks) != 0 {
			t.Errorf("Banks(%d, %x): %v", k, x.W, banks)
		}
	}
	for _, at := range append([]int{0, 1, 2, 3, 4, 7, 8, k, k - 1}, strange...) {
		if part := split.Part(k, at, l); len(part) != 0 {
			t.Errorf("Part(%d, %d): %v", k, at, part)
		}
	}
	for _, given := range [][]entry.Entry{nil, l[:1], l} {
		if n := split.Copies(k, given); n != 0 {
			t.Errorf("Copies(%d) of %d: %d", k, len(given), n)
		}
	}
}

// TestOf has all first four bits, and each bit of an address turned: it counts by
// its place, or not at all.
func TestOf(t *testing.T) { // P16.1
	for k := range many {
		for _, a := range addresses() {
			if got, want := split.Of(k, a), bankOf(k, a); got != want {
				t.Fatalf("Of(%d, %x): %d, not %d", k, a, got, want)
			}
		}
	}
	weights := [4][]int{{}, {1}, {2, 1}, {4, 2, 1}}
	for k, w := range weights {
		for i := range all {
			want := 0
			if i < len(w) {
				want = w[i]
			}
			if got := split.Of(k, flipped(addr.Addr{}, i)); got != want {
				t.Errorf("Of(%d) with bit %d set: %d", k, i, got)
			}
			if got := split.Of(k, flipped(addr.Addr{ones, ones}, i)); got != many[k]-1-want {
				t.Errorf("Of(%d) with all but bit %d set: %d", k, i, got)
			}
		}
	}
}

// TestOfAnyAddress has addresses without a pattern; those of one bank have the
// same first bits.
func TestOfAnyAddress(t *testing.T) { // P16.1
	next := sequence(1)
	for range 3000 {
		a := addr.Addr{next(), next()}
		for k := range many {
			if got, want := split.Of(k, a), bankOf(k, a); got != want {
				t.Fatalf("Of(%d, %x): %d, not %d", k, a, got, want)
			}
			if got, want := split.Of(k, addr.Cut(a, k)), split.Of(k, a); got != want {
				t.Fatalf("Of(%d) of the first bits of %x: %d, not %d", k, a, got, want)
			}
		}
	}
}

// TestBanks has all Values and Masks at the first four bits, with each rest.
func TestBanks(t *testing.T) { // P16.1
	for _, rest := range rests() {
		for _, x := range words(rest) {
			for k := range many {
				if got, want := split.Banks(k, x), banksOf(k, x); !slices.Equal(got, want) {
					t.Fatalf("Banks(%d, %x): %v, not %v", k, x, got, want)
				}
			}
		}
	}
}

// TestBanksByHand has words whose banks are written out.
func TestBanksByHand(t *testing.T) { // P16.1
	cases := []struct {
		k     int
		text  string
		banks []int
	}{
		{0, "", []int{0}},
		{0, "1", []int{0}},
		{0, "1111", []int{0}},
		{1, "", []int{0, 1}},
		{1, "0", []int{0}},
		{1, "1", []int{1}},
		{1, ".1", []int{0, 1}},
		{1, "10", []int{1}},
		{2, "", []int{0, 1, 2, 3}},
		{2, "1", []int{2, 3}},
		{2, ".1", []int{1, 3}},
		{2, ".0", []int{0, 2}},
		{2, "..1", []int{0, 1, 2, 3}},
		{2, "011", []int{1}},
		{3, "", []int{0, 1, 2, 3, 4, 5, 6, 7}},
		{3, "1", []int{4, 5, 6, 7}},
		{3, ".1", []int{2, 3, 6, 7}},
		{3, "..1", []int{1, 3, 5, 7}},
		{3, "..0", []int{0, 2, 4, 6}},
		{3, "0.1", []int{1, 3}},
		{3, "1.1", []int{5, 7}},
		{3, ".01", []int{1, 5}},
		{3, ".10", []int{2, 6}},
		{3, "11", []int{6, 7}},
		{3, "110", []int{6}},
		{3, "0111", []int{3}},
		{3, "...1", []int{0, 1, 2, 3, 4, 5, 6, 7}},
	}
	for _, c := range cases {
		if got := split.Banks(c.k, shaped(c.text, 0, 1).W); !slices.Equal(got, c.banks) {
			t.Errorf("Banks(%d) of %q: %v", c.k, c.text, got)
		}
	}
}

// TestBanksAtEach has words with one bit that is told, and with one that is free:
// only the first bits count.
func TestBanksAtEach(t *testing.T) { // P16.1
	for i := range all {
		one := flipped(addr.Addr{}, i)
		for _, x := range []word.Word{
			{Mask: one},
			{Value: one, Mask: one},
			{Value: addr.Addr{ones, ones}, Mask: one},
			{Mask: addr.Not(one)},
			{Value: one, Mask: addr.Not(one)},
			{Value: addr.Addr{ones, ones}, Mask: addr.Not(one)},
		} {
			for k := range many {
				if got, want := split.Banks(k, x), banksOf(k, x); !slices.Equal(got, want) {
					t.Errorf("Banks(%d, %x): %v, not %v", k, x, got, want)
				}
			}
		}
	}
}

// TestBanksOfPrefixes has prefixes of all lengths: a bank is that of all their
// addresses, or they have all banks that begin as they do.
func TestBanksOfPrefixes(t *testing.T) { // P16.1
	for _, a := range []addr.Addr{{}, {ones, ones}, {0xa5a5a5a5a5a5a5a5, 0x5a5a5a5a5a5a5a5a}, {0x5a5a5a5a5a5a5a5a, 1}} {
		for n := range all + 1 {
			p := prefix.Make(a, n)
			for k := range many {
				var want []int
				for at := range 1 << max(k-n, 0) {
					want = append(want, bankOf(k, p.A)+at)
				}
				if got := split.Banks(k, word.Of(p)); !slices.Equal(got, want) {
					t.Errorf("Banks(%d) of %x: %v, not %v", k, p, got, want)
				}
			}
		}
	}
}

// TestBanksOfAnyWord has words without a pattern: each address that one matches
// is of one of its banks, and each bank has one.
func TestBanksOfAnyWord(t *testing.T) { // P16.1
	next := sequence(2)
	for _, x := range some(next, 3000) {
		for k := range many {
			banks := split.Banks(k, x.W)
			if want := banksOf(k, x.W); !slices.Equal(banks, want) {
				t.Fatalf("Banks(%d, %x): %v, not %v", k, x.W, banks, want)
			}
			for range 4 {
				a := addr.Or(addr.And(x.W.Value, x.W.Mask), addr.And(addr.Addr{next(), next()}, addr.Not(x.W.Mask)))
				if at := split.Of(k, a); !slices.Contains(banks, at) {
					t.Fatalf("Banks(%d, %x): %v, without the bank %d of %x", k, x.W, banks, at, a)
				}
			}
		}
	}
}

// TestLists has all lists of up to three entries.
func TestLists(t *testing.T) { // P16.1
	lists(letters(), 3, func(l []entry.Entry) {
		for k := range many {
			checkList(t, k, l)
		}
	})
}

// TestListsOfAllWords has all Values and Masks at the first four bits.
func TestListsOfAllWords(t *testing.T) { // P16.1
	for _, rest := range rests() {
		var l []entry.Entry
		for i, w := range words(rest) {
			l = append(l, entry.Entry{W: w, Len: i % 7, Action: 1 + i%255})
		}
		for k := range many {
			checkList(t, k, l)
		}
	}
}

// TestListsWithoutPattern has long ones too.
func TestListsWithoutPattern(t *testing.T) { // P16.1
	next := sequence(3)
	for n := range 60 {
		l := some(next, n)
		for k := range many {
			checkList(t, k, l)
		}
	}
}

// TestNoSuchBank has numbers of banks that there are not.
func TestNoSuchBank(t *testing.T) { // P16.1
	l := letters()
	for k, n := range many {
		for at := -300; at <= 300; at++ {
			if part := split.Part(k, at, l); (len(part) != 0) != (at >= 0 && at < n) {
				t.Errorf("Part(%d, %d): %v", k, at, part)
			}
		}
		for _, at := range strange {
			if part := split.Part(k, at, l); len(part) != 0 {
				t.Errorf("Part(%d, %d): %v", k, at, part)
			}
		}
	}
}

// TestNone has nil and empty lists, which are equivalent.
func TestNone(t *testing.T) { // P16.1
	for _, l := range [][]entry.Entry{nil, {}, make([]entry.Entry, 0, 5), letters()[:0], letters()[3:3]} {
		for k, n := range many {
			for at := range n {
				if part := split.Part(k, at, l); len(part) != 0 {
					t.Errorf("Part(%d, %d) of none: %v", k, at, part)
				}
			}
			if c := split.Copies(k, l); c != 0 {
				t.Errorf("Copies(%d) of none: %d", k, c)
			}
		}
	}
}

// TestCopies has numbers that are written out.
func TestCopies(t *testing.T) { // P16.1
	cases := []struct {
		texts []string
		want  [4]int
	}{
		{[]string{""}, [4]int{0, 1, 3, 7}},
		{[]string{"", ""}, [4]int{0, 2, 6, 14}},
		{[]string{"0"}, [4]int{0, 0, 1, 3}},
		{[]string{"..1"}, [4]int{0, 1, 3, 3}},
		{[]string{"...1"}, [4]int{0, 1, 3, 7}},
		{[]string{"01"}, [4]int{0, 0, 0, 1}},
		{[]string{"1.1"}, [4]int{0, 0, 1, 1}},
		{[]string{"110", "110", "0000"}, [4]int{0, 0, 0, 0}},
		{[]string{"", "0", "10", "110", "111"}, [4]int{0, 1, 4, 11}},
	}
	for _, c := range cases {
		var l []entry.Entry
		for _, text := range c.texts {
			l = append(l, shaped(text, len(text), 1))
		}
		for k, want := range c.want {
			if got := split.Copies(k, l); got != want {
				t.Errorf("Copies(%d) of %q: %d", k, c.texts, got)
			}
		}
	}
}

// TestTold has all lists of up to three entries, ordered or not, with each address
// that matters.
func TestTold(t *testing.T) { // P16.2
	lists(letters(), 3, func(l []entry.Entry) {
		for first := range uint64(16) {
			for k := range many {
				checkTold(t, k, l, addr.Addr{first << 60})
			}
		}
	})
}

// TestToldWithoutPattern has long lists, as they are and sorted.
func TestToldWithoutPattern(t *testing.T) { // P16.2
	next := sequence(4)
	for n := range 60 {
		l := some(next, n)
		for i := range l {
			l[i].W.Mask = addr.And(l[i].W.Mask, addr.Addr{0xf000000000000000, 3})
		}
		for _, given := range [][]entry.Entry{l, entry.Sort(l)} {
			for first := range uint64(16) {
				for last := range uint64(4) {
					for k := range many {
						checkTold(t, k, given, addr.Addr{first<<60 | 5, last})
					}
				}
			}
		}
	}
}

// TestOrdered has the Parts of lists that are ordered: they are, too, so that the
// first entry that matches is the best one in each bank.
func TestOrdered(t *testing.T) { // P16.2
	lists(letters(), 3, func(l []entry.Entry) {
		for k, n := range many {
			for at := range n {
				if entry.Ordered(l) && !entry.Ordered(split.Part(k, at, l)) {
					t.Fatalf("Part(%d, %d) of %v is not ordered", k, at, l)
				}
			}
		}
	})
}

// TestMemory has lists with spare memory, which no call may touch, and changes what
// was given and what was returned, which may change nothing else.
func TestMemory(t *testing.T) { // P16.1
	from := letters()
	for n := range len(from) + 1 {
		for k, banks := range many {
			for at := range banks {
				spare := slices.Clone(from)
				want := partOf(k, at, from[:n])
				first, second := split.Part(k, at, spare[:n]), split.Part(k, at, spare[:n])
				split.Copies(k, spare[:n])
				if !slices.Equal(spare, from) {
					t.Fatalf("Part or Copies of %d changes what was given", n)
				}
				clear(first[:cap(first)])
				_ = append(first, entry.Entry{Action: 77})
				if !slices.Equal(spare, from) {
					t.Fatalf("Part of %d shares memory with what was given", n)
				}
				clear(spare)
				if !slices.Equal(second, want) {
					t.Fatalf("Part of %d shares memory with what was given, or with another one", n)
				}
			}
		}
	}
}

// TestMemoryOfBanks changes the banks that were returned.
func TestMemoryOfBanks(t *testing.T) { // P16.1
	for _, x := range letters() {
		for k := range many {
			first, second := split.Banks(k, x.W), split.Banks(k, x.W)
			first = first[:cap(first)]
			for i := range first {
				first[i] = 99
			}
			want := banksOf(k, x.W)
			if third := split.Banks(k, x.W); !slices.Equal(second, want) || !slices.Equal(third, want) {
				t.Fatalf("Banks(%d, %x) shares memory: %v, %v", k, x.W, second, third)
			}
		}
	}
}

// TestAgain has the same calls by turns: none depends on those before it.
func TestAgain(t *testing.T) { // P16.1
	l := letters()
	for range 3 {
		for _, k := range []int{3, -1, 0, 2, 4, 1, math.MaxInt, 3, 1, 0} {
			if !split.Right(k) {
				checkWrong(t, k, l)
				continue
			}
			checkList(t, k, l)
			checkTold(t, k, l, addr.Addr{0xb << 60})
		}
	}
}

// TestLong has far more entries than a board has slots.
func TestLong(t *testing.T) { // P16.1
	const n = 200_000
	l := make([]entry.Entry, n)
	for i := range l {
		l[i] = entry.Of(prefix.Make(addr.Addr{uint64(i) << 61, uint64(i)}, all), i)
	}
	for k, banks := range many {
		if c := split.Copies(k, l); c != 0 {
			t.Errorf("Copies(%d) of a long list: %d", k, c)
		}
		if c := split.Copies(k, make([]entry.Entry, n)); c != n*(banks-1) {
			t.Errorf("Copies(%d) of a long list of words without bits: %d", k, c)
		}
		for at := range banks {
			if part := split.Part(k, at, l); len(part) != n/banks {
				t.Errorf("Part(%d, %d) of a long list: %d", k, at, len(part))
			}
			if part := split.Part(k, at, make([]entry.Entry, n)); len(part) != n {
				t.Errorf("Part(%d, %d) of a long list of words without bits: %d", k, at, len(part))
			}
		}
	}
}

func TestExample(t *testing.T) { // example 1
	if banks := split.Banks(1, word.Of(prefix.Prefix{})); !slices.Equal(banks, []int{0, 1}) {
		t.Errorf("0.0.0.0/0 concerns %v", banks)
	}
	if banks := split.Banks(1, word.Of(prefix.Make(addr.Addr{0x0a << 56}, 8))); !slices.Equal(banks, []int{0}) {
		t.Errorf("10.0.0.0/8 concerns %v", banks)
	}
}
