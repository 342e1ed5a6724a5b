package bank_test

import (
	"math"
	"slices"
	"testing"

	"pigeonhole/addr"
	"pigeonhole/api"
	"pigeonhole/bank"
	"pigeonhole/entry"
	"pigeonhole/prefix"
	"pigeonhole/word"
)

const (
	all  = 128
	most = 256 // slots of a bank
	ones = ^uint64(0)
)

// sizes are those of the banks of these tests: the edges, and some within.
var sizes = []int{1, 2, 3, 5, 16, 127, 128, 129, 255, 256}

// strangers are numbers that no bank of these tests has a slot for. Among them
// are those that a narrower integer, or one without a sign, would take for one.
var strangers = []int{
	-1, -2, -3, -127, -128, -129, -255, -256, -257, -1 << 16, -1 << 32, -1<<32 + 1,
	math.MinInt32, math.MinInt, math.MinInt + 1, math.MinInt + 255,
	256, 257, 258, 511, 512, 1 << 16, 1<<16 + 1, 1 << 32, 1<<32 + 1, math.MaxInt32, math.MaxInt - 1, math.MaxInt,
}

// sequence makes numbers without a pattern, always the same ones.
func sequence(seed uint64) func(below int) int {
	x := seed
	return func(below int) int {
		x = x*6364136223846793005 + 1442695040888963407
		return int(x >> 33 % uint64(below))
	}
}

// spots are the bits that differ among the addresses and words of these tests:
// the edges of both halves of an address.
var spots = [4]int{0, 63, 64, 127}

// scattered has the bits of a number at the spots.
func scattered(a addr.Addr, v int) addr.Addr {
	for i, k := range spots {
		a = addr.With(a, k, v>>i&1 == 1)
	}
	return a
}

// base is what the addresses and words have outside the spots.
var base = scattered(addr.Addr{0x0a01020304050607, 0x70f1f2f3f4f5f6f7}, 0)

// addresses are all those that matter for the words of at, and three others.
func addresses() []addr.Addr {
	l := []addr.Addr{{}, {ones, ones}, addr.With(base, 30, !addr.Bit(base, 30))}
	for v := range 1 << len(spots) {
		l = append(l, scattered(base, v))
	}
	return l
}

// at is a word that tells all bits outside the spots. It has bits of its value
// where the mask has none, unless the value is within the mask.
func at(value, mask int) word.Word {
	return word.Word{Value: scattered(base, value), Mask: scattered(addr.Addr{ones, ones}, mask)}
}

// good are valid entries that overlap in all ways.
func good() []entry.Entry {
	return []entry.Entry{
		{W: at(0, 0), Len: 8, Action: 1},
		{W: at(1, 1), Len: 16, Action: 2},
		{W: at(0, 1), Len: 16, Action: 3},
		{W: at(4, 6), Len: 24, Action: 4},
		{W: at(9, 15), Len: 128, Action: 255},
		{Len: 0, Action: 5},
	}
}

// bad are entries that are not valid: each has one thing of a valid one
// replaced.
func bad() []entry.Entry {
	w := at(5, 7)
	l := []entry.Entry{
		{},
		{W: at(2, 1), Len: 8, Action: 1},
		{W: at(8, 7), Len: 8, Action: 1},
		{W: word.Word{Value: addr.Addr{1 << 63, 0}}, Action: 1},
		{W: word.Word{Value: addr.Addr{0, 1}}, Action: 1},
	}
	for _, n := range []int{-1, -128, -256, math.MinInt, 129, 130, 256, 256 + 8, 1<<32 + 8, math.MaxInt} {
		l = append(l, entry.Entry{W: w, Len: n, Action: 1})
	}
	for _, action := range []int{0, -1, -255, -256, math.MinInt, 256, 257, 511, 1<<32 + 1, math.MaxInt} {
		l = append(l, entry.Entry{W: w, Len: 8, Action: action})
	}
	return l
}

// holding is a slot with an entry.
func holding(x entry.Entry) bank.Slot { return bank.Slot{Valid: true, E: x} }

// goodSlots are those that a write may have.
func goodSlots() []bank.Slot {
	l := []bank.Slot{{}}
	for _, x := range good() {
		l = append(l, holding(x))
	}
	return l
}

// badSlots are those that none may have: with entries that are not valid, and
// such as are not Valid but are not the zero Slot.
func badSlots() []bank.Slot {
	l := []bank.Slot{
		{E: entry.Entry{W: word.Word{Mask: addr.Addr{0, 1}}}},
		{E: entry.Entry{W: word.Word{Mask: addr.Addr{1 << 63, 0}}}},
		{E: entry.Entry{W: word.Word{Value: addr.Addr{1, 0}}}},
		{E: entry.Entry{W: word.Word{Value: addr.Addr{0, 1 << 63}}}},
		{E: entry.Entry{Len: 1}}, {E: entry.Entry{Len: -1}}, {E: entry.Entry{Action: 1}}, {E: entry.Entry{Action: -1}},
	}
	for _, x := range good() {
		l = append(l, bank.Slot{E: x})
	}
	for _, x := range bad() {
		l = append(l, holding(x))
		if x != (entry.Entry{}) {
			l = append(l, bank.Slot{E: x})
		}
	}
	return l
}

// lists calls f with all lists of up to a number of slots.
func lists(from []bank.Slot, most int, f func(l []bank.Slot)) {
	var longer func(l []bank.Slot)
	longer = func(l []bank.Slot) {
		f(l)
		for _, s := range from {
			if len(l) < most {
				longer(append(slices.Clone(l), s))
			}
		}
	}
	longer(nil)
}

// matches tells of each bit whether the address has it as the word does.
func matches(x word.Word, a addr.Addr) bool {
	for k := range all {
		if addr.Bit(x.Mask, k) && addr.Bit(x.Value, k) != addr.Bit(a, k) {
			return false
		}
	}
	return true
}

// wantSearch is the chapter's own definition.
func wantSearch(l []bank.Slot, a addr.Addr) (int, bool) {
	for k, s := range l {
		if s.Valid && matches(s.E.W, a) {
			return k, true
		}
	}
	return 0, false
}

// made is a bank with n empty slots.
func made(t *testing.T, n int) *bank.Bank {
	t.Helper()
	b, e := bank.New(n)
	if b == nil || e != api.OK {
		t.Fatalf("New(%d): %v, %v", n, b, e)
	}
	return b
}

func do(t *testing.T, b *bank.Bank, k int, s bank.Slot) {
	t.Helper()
	if e := b.Do(bank.Write{At: k, S: s}); e != api.OK {
		t.Fatalf("Do of %v in slot %d: %v", s, k, e)
	}
}

// filled is a bank with some slots, each of which was written once.
func filled(t *testing.T, l []bank.Slot) *bank.Bank {
	t.Helper()
	b := made(t, len(l))
	for k, s := range l {
		do(t, b, k, s)
	}
	return b
}

// check holds all that a bank tells of its slots against a list.
func check(t *testing.T, b *bank.Bank, l []bank.Slot, writes int) {
	t.Helper()
	if got := b.Slots(); !slices.Equal(got, l) {
		t.Errorf("Slots: %v, not %v", got, l)
	}
	if got := b.Writes(); got != writes {
		t.Errorf("Writes: %d, not %d", got, writes)
	}
	for k, s := range l {
		if got, e := b.Read(k); got != s || e != api.OK {
			t.Errorf("Read(%d): %v, %v, not %v", k, got, e, s)
		}
	}
	for _, k := range append([]int{len(l), len(l) + 1}, strangers...) {
		if got, e := b.Read(k); got != (bank.Slot{}) || e != api.ErrSlot {
			t.Errorf("Read(%d) of %d slots: %v, %v", k, len(l), got, e)
		}
	}
}

// checkSearch holds the searches of a bank against the definition.
func checkSearch(t *testing.T, b *bank.Bank, l []bank.Slot) {
	t.Helper()
	for _, a := range addresses() {
		k, found := wantSearch(l, a)
		if i, ok := b.Search(a); i != k || ok != found {
			t.Errorf("Search(%x) of %v: %d, %t, not %d, %t", a, l, i, ok, k, found)
		}
	}
}

func TestNew(t *testing.T) { // P8.1
	for n := -600; n <= 600; n++ {
		b, e := bank.New(n)
		if n < 1 || n > most {
			if b != nil || e != api.ErrBad {
				t.Errorf("New(%d): %v, %v", n, b, e)
			}
			continue
		}
		if b == nil || e != api.OK {
			t.Fatalf("New(%d): %v, %v", n, b, e)
		}
		check(t, b, make([]bank.Slot, n), 0)
		checkSearch(t, b, nil)
	}
	for _, n := range append([]int{0}, strangers...) {
		if b, e := bank.New(n); n != most && (b != nil || e != api.ErrBad) {
			t.Errorf("New(%d): %v, %v", n, b, e)
		}
	}
}

func TestMay(t *testing.T) { // P8.1
	numbers := slices.Concat([]int{0, 1, 2, 3, 4, 127, 128, 254, 255}, strangers)
	for _, k := range numbers {
		for _, n := range numbers {
			for _, s := range goodSlots() {
				want := k >= 0 && k < n
				if got := bank.May(bank.Write{At: k, S: s}, n); got != want {
					t.Errorf("May of %v in slot %d of %d: %t", s, k, n, got)
				}
			}
			for _, s := range badSlots() {
				if bank.May(bank.Write{At: k, S: s}, n) {
					t.Errorf("May of %v in slot %d of %d", s, k, n)
				}
			}
		}
	}
}

// TestMayAtEachBit turns each bit of the empty slot, and of the word of a valid
// one, which is right only where its mask is set.
func TestMayAtEachBit(t *testing.T) { // P8.1
	half := word.Word{Mask: addr.Addr{0xaaaaaaaaaaaaaaaa, 0x5555555555555555}}
	for k := range all {
		one := addr.With(addr.Addr{}, k, true)
		for _, w := range []word.Word{{Value: one}, {Mask: one}} {
			if bank.May(bank.Write{S: bank.Slot{E: entry.Entry{W: w}}}, 1) {
				t.Errorf("May of the word %x in a slot that is not Valid", w)
			}
		}
		x := entry.Entry{W: word.Word{Value: one, Mask: half.Mask}, Len: 8, Action: 1}
		if got := bank.May(bank.Write{S: holding(x)}, 1); got != addr.Bit(half.Mask, k) {
			t.Errorf("May with bit %d set: %t", k, got)
		}
	}
	for n := -300; n <= 300; n++ {
		s := holding(entry.Entry{Len: n, Action: 1})
		if got := bank.May(bank.Write{S: s}, 1); got != (n >= 0 && n <= 128) {
			t.Errorf("May with the Len %d: %t", n, got)
		}
		s = holding(entry.Entry{Action: n})
		if got := bank.May(bank.Write{S: s}, 1); got != (n >= 1 && n <= 255) {
			t.Errorf("May with the Action %d: %t", n, got)
		}
	}
}

// TestDo writes each slot, over what is there: a full slot, an empty one, and
// the same one again.
func TestDo(t *testing.T) { // P8.1
	from := goodSlots()
	for _, n := range sizes {
		b, l, writes := made(t, n), make([]bank.Slot, n), 0
		for round := range len(from) + 1 {
			for k := range n {
				s := from[(k+round)%len(from)]
				do(t, b, k, s)
				do(t, b, k, s)
				l[k] = s
				writes += 2
				if got, e := b.Read(k); got != s || e != api.OK || b.Writes() != writes {
					t.Errorf("after Do of %v in slot %d: %v, %v, %d writes", s, k, got, e, b.Writes())
				}
				if k%50 == 0 {
					check(t, b, l, writes)
				}
			}
			check(t, b, l, writes)
			checkSearch(t, b, l)
		}
	}
}

// TestDoOverEach has each slot take the place of each other one, between others
// that stay.
func TestDoOverEach(t *testing.T) { // P8.1
	from := goodSlots()
	for _, was := range from {
		for _, s := range from {
			for k := range 3 {
				l := []bank.Slot{from[1], from[2], from[3]}
				l[k] = was
				b := filled(t, l)
				do(t, b, k, s)
				l[k] = s
				check(t, b, l, 4)
				checkSearch(t, b, l)
			}
		}
	}
}

// TestDoBad has writes of slots that there are not, and writes that are not
// valid; where both holds, the slot comes ahead. None changes anything.
func TestDoBad(t *testing.T) { // P8.1
	from := goodSlots()
	for _, n := range sizes {
		l := make([]bank.Slot, n)
		for k := range n {
			l[k] = from[k%len(from)]
		}
		b := filled(t, l)
		for _, s := range slices.Concat(badSlots(), from) {
			for _, k := range append([]int{n, n + 1}, strangers...) {
				if e := b.Do(bank.Write{At: k, S: s}); e != api.ErrSlot {
					t.Errorf("Do of %v in slot %d of %d: %v", s, k, n, e)
				}
			}
		}
		for _, s := range badSlots() {
			for _, k := range []int{0, n / 2, n - 1} {
				if e := b.Do(bank.Write{At: k, S: s}); e != api.ErrBad {
					t.Errorf("Do of %v in slot %d of %d: %v", s, k, n, e)
				}
			}
		}
		check(t, b, l, n)
		checkSearch(t, b, l)
	}
}

func TestSearch(t *testing.T) { // P8.1
	lists(goodSlots(), 4, func(l []bank.Slot) {
		if len(l) > 0 {
			checkSearch(t, filled(t, l), l)
		}
	})
}

// TestSearchAtEach has one slot that matches, at each place of the greatest
// bank, or one at each place and another one behind it.
func TestSearchAtEach(t *testing.T) { // P8.1
	one, other, a := holding(good()[1]), holding(good()[2]), scattered(base, 1)
	b, empty := made(t, most), made(t, most)
	for k := range most {
		do(t, b, k, other)
	}
	for k := most - 1; k >= 0; k-- {
		for _, x := range []*bank.Bank{b, empty} {
			do(t, x, k, one)
			if i, ok := x.Search(a); i != k || !ok {
				t.Errorf("Search of slot %d: %d, %t", k, i, ok)
			}
		}
		do(t, empty, k, bank.Slot{})
		if i, ok := empty.Search(a); i != 0 || ok {
			t.Errorf("Search of no slot: %d, %t", i, ok)
		}
	}
}

// TestSlots has a list that can be changed, and later writes that do not change
// it.
func TestSlots(t *testing.T) { // P8.1
	from := goodSlots()
	for _, n := range sizes {
		b := made(t, n)
		for k := range n {
			before := b.Slots()
			was := slices.Clone(before)
			do(t, b, k, from[1+k%3])
			if !slices.Equal(before, was) || b.Slots()[k] != from[1+k%3] {
				t.Errorf("Do of slot %d: Slots of before %v, of after %v", k, before, b.Slots())
			}
		}
		want, first, second := b.Slots(), b.Slots(), b.Slots()
		clear(first[:cap(first)])
		if !slices.Equal(second, want) {
			t.Error("two lists of Slots share memory")
		}
		check(t, b, want, n)
	}
}

// TestCopy has a copy and a copy of it, each of which is changed alone.
func TestCopy(t *testing.T) { // P8.1
	from := goodSlots()
	for _, n := range sizes {
		l := make([]bank.Slot, n)
		for k := range n {
			l[k] = from[k*k%len(from)]
		}
		b := filled(t, l)
		c := b.Copy()
		d := c.Copy()
		check(t, c, l, n)
		checkSearch(t, d, l)
		for k := range n {
			do(t, c, k, from[2])
		}
		check(t, b, l, n)
		check(t, d, l, n)
		check(t, c, slices.Repeat(from[2:3], n), 2*n)
		do(t, b, n-1, from[4])
		do(t, b, n-1, from[5])
		check(t, d, l, n)
		check(t, c, slices.Repeat(from[2:3], n), 2*n)
		l[n-1] = from[5]
		check(t, b, l, n+2)
		checkSearch(t, b, l)
	}
	check(t, made(t, 3).Copy(), make([]bank.Slot, 3), 0)
}

// samples are slots of lists, which need not be those of a bank: some with
// entries that are not valid, and some that are not Valid but match addresses.
func samples() []bank.Slot {
	from := goodSlots()
	return append(from[:5:5],
		bank.Slot{E: from[1].E},
		bank.Slot{E: entry.Entry{Len: 128, Action: 7}},
		holding(entry.Entry{W: at(15, 6), Len: -1, Action: -9}),
		holding(entry.Entry{}),
	)
}

// TestLists holds what is told of lists against the definitions, for all short
// lists of samples.
func TestLists(t *testing.T) { // P8.2
	as := addresses()
	lists(samples(), 4, func(l []bank.Slot) {
		var entries []entry.Entry
		for _, s := range l {
			if s.Valid {
				entries = append(entries, s.E)
			}
		}
		if got := bank.Entries(l); !slices.Equal(got, entries) {
			t.Errorf("Entries(%v): %v", l, got)
		}
		if got := bank.Free(l); got != len(l)-len(entries) {
			t.Errorf("Free(%v): %d", l, got)
		}
		for _, a := range as {
			action := 0
			if k, found := wantSearch(l, a); found {
				action = l[k].E.Action
			}
			if got := bank.Tell(l, a); got != action {
				t.Errorf("Tell(%v, %x): %d, not %d", l, a, got, action)
			}
		}
	})
	for _, l := range [][]bank.Slot{nil, {}} {
		if len(bank.Entries(l)) != 0 || bank.Free(l) != 0 || bank.Tell(l, base) != 0 || len(bank.Apply(l, nil)) != 0 {
			t.Error("an empty list has slots")
		}
	}
}

// TestListsOfBanks has the same answers as the banks with these slots.
func TestListsOfBanks(t *testing.T) { // P8.1, P8.2
	lists(goodSlots(), 3, func(l []bank.Slot) {
		if len(l) == 0 {
			return
		}
		b := filled(t, l)
		for _, a := range addresses() {
			action := 0
			if k, found := b.Search(a); found {
				action = l[k].E.Action
			}
			if got := bank.Tell(b.Slots(), a); got != action {
				t.Errorf("Tell(%v, %x): %d, not %d", l, a, got, action)
			}
		}
	})
}

// wantApply is the chapter's own definition: a write that has no slot, or whose
// slot is not one of the good ones, is passed over.
func wantApply(l []bank.Slot, w []bank.Write) []bank.Slot {
	after := slices.Clone(l)
	for _, x := range w {
		for k := range after {
			if k == x.At && slices.Contains(goodSlots(), x.S) {
				after[k] = x.S
			}
		}
	}
	return after
}

// someWrites are writes of up to three slots: valid ones and others.
func someWrites() []bank.Write {
	from, wrong := goodSlots(), badSlots()
	var l []bank.Write
	for k := -1; k <= 3; k++ {
		for _, s := range []bank.Slot{from[0], from[1], from[3], wrong[0], wrong[len(wrong)-1], holding(bad()[0])} {
			l = append(l, bank.Write{At: k, S: s})
		}
	}
	return l
}

// TestApply has all lists of up to two writes, for all lists of up to three of
// some samples.
func TestApply(t *testing.T) { // P8.2
	writes := [][]bank.Write{nil, {}}
	for _, x := range someWrites() {
		writes = append(writes, []bank.Write{x})
		for _, y := range someWrites() {
			writes = append(writes, []bank.Write{x, y})
		}
	}
	lists(samples()[3:7], 3, func(l []bank.Slot) {
		for _, w := range writes {
			if got, want := bank.Apply(l, w), wantApply(l, w); !slices.Equal(got, want) {
				t.Errorf("Apply(%v, %v): %v, not %v", l, w, got, want)
			}
		}
	})
}

// TestApplyEach has each valid slot, and each other one, at each number, between
// two writes that are valid.
func TestApplyEach(t *testing.T) { // P8.2
	from := goodSlots()
	for _, n := range []int{1, 2, 3, 255, 256, 257, 1000} {
		l := slices.Repeat(samples()[8:], n)
		first, last := bank.Write{At: 0, S: from[2]}, bank.Write{At: n - 1, S: from[3]}
		for _, k := range slices.Concat([]int{0, 1, n - 1, n, n + 1}, strangers) {
			for _, s := range slices.Concat(from, badSlots()) {
				w := []bank.Write{first, {At: k, S: s}, last}
				want := slices.Clone(l)
				want[0] = from[2]
				if k >= 0 && k < n && slices.Contains(from, s) {
					want[k] = s
				}
				want[n-1] = from[3]
				if got := bank.Apply(l, w); !slices.Equal(got, want) {
					t.Errorf("Apply of %v in slot %d of %d", s, k, n)
				}
			}
		}
	}
}

// TestApplyLikeDo has writes without a pattern, which a bank does one by one.
func TestApplyLikeDo(t *testing.T) { // P8.1, P8.2
	next := sequence(7)
	from := slices.Concat(goodSlots(), goodSlots(), badSlots())
	for round := range 60 {
		n := sizes[round%len(sizes)]
		b, writes := made(t, n), 0
		l := make([]bank.Slot, n)
		var w []bank.Write
		for range next(200) {
			x := bank.Write{At: next(n+4) - 2, S: from[next(len(from))]}
			w = append(w, x)
			if may := bank.May(x, n); may != (b.Do(x) == api.OK) {
				t.Errorf("May(%v, %d): %t", x, n, may)
			} else if may {
				writes++
			}
		}
		want := bank.Apply(l, w)
		check(t, b, want, writes)
		checkSearch(t, b, want)
		if !slices.Equal(want, wantApply(l, w)) {
			t.Errorf("Apply of %d writes to %d slots: %v", len(w), n, want)
		}
		checkParts(t, l, w)
	}
}

// checkParts applies writes in two parts, wherever they are parted.
func checkParts(t *testing.T, l []bank.Slot, w []bank.Write) {
	t.Helper()
	want := bank.Apply(l, w)
	for i := range w {
		if got := bank.Apply(bank.Apply(l, w[:i]), w[i:]); !slices.Equal(got, want) {
			t.Errorf("Apply in two parts, %d first: %v, not %v", i, got, want)
		}
	}
}

// TestNothingIsChanged calls all that takes lists, and holds them, with the
// memory behind their ends, against what they were.
func TestNothingIsChanged(t *testing.T) { // P8.2
	whole, writes := slices.Concat(samples(), goodSlots(), samples()), someWrites()
	wasSlots, wasWrites := slices.Clone(whole), slices.Clone(writes)
	for n := range whole {
		l, w := whole[:n], writes[:n]
		after, entries := bank.Apply(l, w), bank.Entries(l)
		if !slices.Equal(after, bank.Apply(slices.Clip(l), slices.Clip(w))) {
			t.Errorf("Apply to %d slots depends on the memory behind them", n)
		}
		clear(after[:cap(after)])
		clear(entries[:cap(entries)])
		none := bank.Apply(l, nil)
		clear(none[:cap(none)])
		for _, a := range addresses() {
			if bank.Tell(l, a) != bank.Tell(slices.Clone(l), a) || bank.Free(l) != bank.Free(slices.Clone(l)) {
				t.Errorf("the results for %d slots depend on the memory behind them", n)
			}
		}
		if !slices.Equal(whole, wasSlots) || !slices.Equal(writes, wasWrites) {
			t.Fatalf("a call with %d slots has changed them", n)
		}
	}
}

func TestLongLists(t *testing.T) { // P8.2
	const many = 200_000
	from := samples()
	l := make([]bank.Slot, many)
	w := make([]bank.Write, many)
	for k := range l {
		l[k] = from[k%len(from)]
		w[k] = bank.Write{At: many - 1 - k, S: goodSlots()[k%2]}
	}
	if got := len(bank.Entries(l)) + bank.Free(l); got != many {
		t.Errorf("Entries and Free of %d slots: %d", many, got)
	}
	after := bank.Apply(l, w)
	if bank.Free(after) != many/2 || !slices.Equal(after, bank.Apply(make([]bank.Slot, many), w)) {
		t.Errorf("Apply of %d writes leaves %d slots free", many, bank.Free(after))
	}
	empty := make([]bank.Slot, many)
	empty[many-1] = holding(entry.Entry{Action: 9})
	if bank.Tell(empty, base) != 9 || bank.Free(empty) != many-1 || len(bank.Entries(empty)) != 1 {
		t.Error("the last one of many slots is not found")
	}
}

// TestOrdered holds Tell of the slots against entry.Tell of the entries, for
// all short lists of slots whose entries are ordered.
func TestOrdered(t *testing.T) { // P8.3
	as := addresses()
	ordered, others := 0, 0
	lists(goodSlots(), 4, func(l []bank.Slot) {
		entries := bank.Entries(l)
		differs := slices.ContainsFunc(as, func(a addr.Addr) bool {
			return bank.Tell(l, a) != entry.Tell(entries, a)
		})
		if entry.Ordered(entries) {
			ordered++
		} else if differs {
			others++
		}
		if entry.Ordered(entries) && differs {
			t.Errorf("Tell of the slots %v is not that of the entries", l)
		}
	})
	if ordered == 0 || others == 0 {
		t.Errorf("%d lists are ordered, and %d others tell something else", ordered, others)
	}
}

// TestOrderedBanks has sorted entries of prefixes in a bank with gaps.
func TestOrderedBanks(t *testing.T) { // P8.3
	next := sequence(3)
	for range 40 {
		var entries []entry.Entry
		for v := range 60 {
			a := addr.Addr{uint64(next(1<<8)) << 56, 0}
			entries = append(entries, entry.Of(prefix.Make(a, next(9)), v+1))
		}
		entries = entry.Sort(entries)
		b := made(t, most)
		for i, x := range entries {
			do(t, b, 4*i+next(4), holding(x))
		}
		if !slices.Equal(bank.Entries(b.Slots()), entries) || bank.Free(b.Slots()) != most-len(entries) {
			t.Fatal("the entries are not those that were written")
		}
		for v := range 1 << 8 {
			a := addr.Addr{uint64(v)<<56 | 1, 1}
			if got := bank.Tell(b.Slots(), a); got != entry.Tell(entries, a) {
				t.Errorf("Tell(%x): %d, not %d", a, got, entry.Tell(entries, a))
			}
		}
	}
}

func TestExample(t *testing.T) { // example 1
	a := addr.Addr{0x0a01000000000000, 0}
	eight := holding(entry.Of(prefix.Make(a, 8), 1))
	sixteen := holding(entry.Of(prefix.Make(a, 16), 2))
	for _, l := range [][]bank.Slot{{eight, sixteen}, {sixteen, eight}, {eight, eight}} {
		if k, found := filled(t, l).Search(a); k != 0 || !found {
			t.Errorf("Search of %v: %d, %t", l, k, found)
		}
		if got := bank.Tell(l, a); got != l[0].E.Action {
			t.Errorf("Tell of %v: %d", l, got)
		}
	}
}
