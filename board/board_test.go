package board_test

import (
	"fmt"
	"math"
	"slices"
	"testing"

	"pigeonhole/addr"
	"pigeonhole/api"
	"pigeonhole/bank"
	"pigeonhole/board"
	"pigeonhole/entry"
	"pigeonhole/job"
	"pigeonhole/prefix"
	"pigeonhole/split"
	"pigeonhole/word"
)

const (
	most = 256 // slots of a bank
	ones = ^uint64(0)
)

// many is how many banks an index of the chapter has.
var many = [4]int{1, 2, 4, 8}

// sizes are those of the banks of these tests: the edges, and some within.
var sizes = []int{1, 2, 3, 5, 16, 127, 128, 129, 255, 256}

// strange are numbers of nothing that these tests have. Some of them become one
// of something if they are cut to fewer bits, or negated.
var strange = []int{
	math.MinInt, math.MinInt + 1, math.MinInt + 255, math.MinInt32, -1 << 32, -1<<32 + 1, -1<<32 + 3, -257, -256, -255, -254, -129, -128, -127, -9, -8, -7, -4, -3, -2, -1,
	257, 258, 259, 260, 263, 511, 512, 513, 1 << 16, 1<<16 + 1, 1<<16 + 3, 1 << 31, 1 << 32, 1<<32 + 1, 1<<32 + 3, math.MaxInt - 1, math.MaxInt,
}

// sequence makes numbers without a pattern, always the same ones.
func sequence(seed uint64) func(below int) int {
	x := seed
	return func(below int) int {
		x = x*6364136223846793005 + 1442695040888963407
		return int(x >> 33 % uint64(below))
	}
}

// lists calls f with all lists of a number of some things.
func lists[T any](from []T, long int, f func(l []T)) {
	l := make([]T, long)
	var fill func(k int)
	fill = func(k int) {
		if k == long {
			f(slices.Clone(l))
			return
		}
		for _, x := range from {
			l[k] = x
			fill(k + 1)
		}
	}
	fill(0)
}

// addresses have all first four bits, which is one more than an index has, each
// with some others behind them.
func addresses() []addr.Addr {
	var l []addr.Addr
	for first := range uint64(16) {
		for _, rest := range []addr.Addr{{}, {ones >> 4, ones}, {0x0a01020304050607, 1}, {0, 1 << 63}} {
			l = append(l, addr.Addr{first<<60 | rest[0], rest[1]})
		}
	}
	return l
}

// short are the addresses of all first four bits alone.
func short() []addr.Addr {
	var l []addr.Addr
	for first := range uint64(16) {
		l = append(l, addr.Addr{first << 60})
	}
	return l
}

// shaped is a slot whose word is a text of 0, 1 and dots for free bits.
func shaped(text string, action int) bank.Slot {
	s := bank.Slot{Valid: true, E: entry.Entry{Len: len(text), Action: action}}
	for k, c := range text {
		s.E.W.Mask = addr.With(s.E.W.Mask, k, c != '.')
		s.E.W.Value = addr.With(s.E.W.Value, k, c == '1')
	}
	return s
}

// good are the slots that a write may have: the empty one, one that matches every
// address, and others that match some in some of the banks.
func good() []bank.Slot {
	return []bank.Slot{
		{},
		shaped("", 1),
		shaped("...1", 2),
		shaped("10", 3),
		shaped("0.1", 4),
		shaped("1110", 255),
	}
}

// bad are slots that no write may have.
func bad() []bank.Slot {
	l := []bank.Slot{
		{Valid: true},
		shaped("1", 0), shaped("1", -1), shaped("1", 256), shaped("1", math.MaxInt),
		{E: entry.Entry{Action: 1}},
		{E: entry.Entry{W: word.Word{Value: addr.Addr{0, 1}}}},
		{Valid: true, E: entry.Entry{W: word.Word{Value: addr.Addr{1 << 63}}, Action: 1}},
	}
	for _, n := range []int{-1, 129, math.MinInt, math.MaxInt} {
		s := shaped("1", 1)
		s.E.Len = n
		l = append(l, s)
	}
	for _, s := range good()[1:] {
		l = append(l, bank.Slot{E: s.E})
	}
	return l
}

// model is what a board has, and is asked by the chapters' own definitions.
type model struct {
	k, n   int
	slots  [][]bank.Slot
	writes int
}

func modelOf(k, n int) model {
	m := model{k: k, n: n}
	for range many[k] {
		m.slots = append(m.slots, make([]bank.Slot, n))
	}
	return m
}

func (m model) copied() model {
	c := m
	c.slots = nil
	for _, l := range m.slots {
		c.slots = append(c.slots, slices.Clone(l))
	}
	return c
}

// do takes a move whose slot is good or bad.
func (m *model) do(x job.Move) api.Errno {
	if x.Bank < 0 || x.Bank >= many[m.k] || x.W.At < 0 || x.W.At >= m.n {
		return api.ErrSlot
	}
	if !slices.Contains(good(), x.W.S) {
		return api.ErrBad
	}
	m.slots[x.Bank][x.W.At] = x.W.S
	m.writes++
	return api.OK
}

func (m model) valid() int {
	n := 0
	for _, l := range m.slots {
		for _, s := range l {
			if s.Valid {
				n++
			}
		}
	}
	return n
}

// bankOf is the number that the first k bits form.
func bankOf(k int, a addr.Addr) int {
	at := 0
	for i := range k {
		at = 2*at + int(a[0]>>(63-i)&1)
	}
	return at
}

// matches tells whether the address has the bits of Value wherever Mask is set.
func matches(x word.Word, a addr.Addr) bool {
	return (x.Value[0]^a[0])&x.Mask[0] == 0 && (x.Value[1]^a[1])&x.Mask[1] == 0
}

// found is what Search and Tell return.
type found struct {
	bank, slot int
	is         bool
	action     int
}

func (m model) search(a addr.Addr) found {
	f := found{bank: bankOf(m.k, a)}
	for k, s := range m.slots[f.bank] {
		if s.Valid && matches(s.E.W, a) {
			f.slot, f.is, f.action = k, true, s.E.Action
			break
		}
	}
	return f
}

// asked is what a board tells of an address.
func asked(b *board.Board, a addr.Addr) found {
	at, k, is := b.Search(a)
	return found{bank: at, slot: k, is: is, action: b.Tell(a)}
}

// same tells whether two lists of slots of banks are equal.
func same(l, other [][]bank.Slot) bool {
	return slices.EqualFunc(l, other, slices.Equal[[]bank.Slot])
}

// check holds all that a board tells of itself against the model.
func check(t *testing.T, what string, b *board.Board, m model) {
	t.Helper()
	if b.Bits() != m.k || b.Size() != m.n {
		t.Fatalf("%s: Bits %d and Size %d, not %d and %d", what, b.Bits(), b.Size(), m.k, m.n)
	}
	if l := b.Slots(); !same(l, m.slots) {
		t.Fatalf("%s: Slots %v, not %v", what, l, m.slots)
	}
	if n := b.Writes(); n != m.writes {
		t.Fatalf("%s: Writes %d, not %d", what, n, m.writes)
	}
	if n, want := b.Valid(), m.valid(); n != want {
		t.Fatalf("%s: Valid %d, not %d", what, n, want)
	}
}

// checkSearch holds the searches for some addresses against the model.
func checkSearch(t *testing.T, what string, b *board.Board, m model, as []addr.Addr) {
	t.Helper()
	for _, a := range as {
		if got, want := asked(b, a), m.search(a); got != want {
			t.Fatalf("%s: %x is searched for: %+v, not %+v, in %v", what, a, got, want, m.slots)
		}
	}
}

// made is a board with empty slots.
func made(t *testing.T, k, n int) *board.Board {
	t.Helper()
	b, e := board.New(k, n)
	if b == nil || e != api.OK {
		t.Fatalf("New(%d, %d): %v, %v", k, n, b, e)
	}
	return b
}

// move is one that writes a slot.
func move(at, k int, s bank.Slot) job.Move {
	return job.Move{Bank: at, W: bank.Write{At: k, S: s}}
}

// do has a move done by a board and by its model, which must agree.
func do(t *testing.T, b *board.Board, m *model, x job.Move) {
	t.Helper()
	if e, want := b.Do(x), m.do(x); e != want {
		t.Fatalf("Do of %v on %d bits, %d slots: %v, not %v", x, m.k, m.n, e, want)
	}
}

// filled is a board with something in most of its slots.
func filled(t *testing.T, k, n int) (*board.Board, model) {
	t.Helper()
	b, m := made(t, k, n), modelOf(k, n)
	next := sequence(uint64(k*1000 + n))
	from := good()
	for at := range many[k] {
		for i := range n {
			do(t, b, &m, move(at, i, from[next(len(from))]))
		}
	}
	return b, m
}

// checkNone has numbers for which there is no board.
func checkNone(t *testing.T, k, n int) {
	t.Helper()
	if b, e := board.New(k, n); b != nil || e != api.ErrBad {
		t.Errorf("New(%d, %d): %v, %v", k, n, b, e)
	}
}

func TestNew(t *testing.T) { // P17.1
	for k := range many {
		for n := 1; n <= most; n++ {
			b, m := made(t, k, n), modelOf(k, n)
			check(t, "New", b, m)
			checkSearch(t, "New", b, m, short())
		}
		for n := -600; n <= 600; n++ {
			if n < 1 || n > most {
				checkNone(t, k, n)
			}
		}
		for _, n := range strange {
			checkNone(t, k, n)
		}
	}
}

// TestNoIndex has numbers of bits that no index has, with each number of slots.
func TestNoIndex(t *testing.T) { // P17.1
	for k := -300; k <= 300; k++ {
		for _, n := range slices.Concat(sizes, []int{-1, 0, 257}, strange) {
			if k < 0 || k > 3 {
				checkNone(t, k, n)
			}
		}
	}
	for _, k := range append([]int{4, 5, 7, 8, 16, 32, 62, 63, 64, 65, 256}, strange...) {
		for n := -2; n <= 300; n++ {
			checkNone(t, k, n)
		}
		for _, n := range strange {
			checkNone(t, k, n)
		}
	}
}

// TestDo writes each slot of each bank, over what is there: another one, and the
// same one again, which counts, too.
func TestDo(t *testing.T) { // P17.1
	from := good()
	for k, banks := range many {
		for _, n := range []int{1, 2, 3, 129, 256} {
			b, m := made(t, k, n), modelOf(k, n)
			for round := range len(from) + 1 {
				for at := range banks {
					for i := range n {
						x := move(at, i, from[(at+i+round)%len(from)])
						do(t, b, &m, x)
						if i%40 == 0 {
							check(t, "Do", b, m)
						}
						do(t, b, &m, x)
					}
					check(t, "Do of a bank", b, m)
				}
				checkSearch(t, "Do of all", b, m, addresses())
			}
		}
	}
}

// TestDoOverEach has each slot take the place of each other one, in each bank,
// between others that stay.
func TestDoOverEach(t *testing.T) { // P17.1
	for k, banks := range many {
		for at := range banks {
			for _, was := range good() {
				for _, s := range good() {
					b, m := filled(t, k, 3)
					do(t, b, &m, move(at, 1, was))
					do(t, b, &m, move(at, 1, s))
					check(t, "Do over a slot", b, m)
					checkSearch(t, "Do over a slot", b, m, short())
				}
			}
		}
	}
}

// TestDoWithoutBank has banks that there are not, with writes that are valid and
// with others: the error is that of the bank, and nothing changes.
func TestDoWithoutBank(t *testing.T) { // P17.1
	slots := slices.Concat(good(), bad())
	for k, banks := range many {
		for _, n := range []int{1, 2, 255, 256} {
			b, m := filled(t, k, n)
			for _, at := range append([]int{banks, banks + 1, 2 * banks, 3 * banks, 8, 9, 16, 255, 256}, strange...) {
				for _, i := range append([]int{0, n - 1, n}, strange...) {
					for _, s := range slots {
						if e := b.Do(move(at, i, s)); e != api.ErrSlot {
							t.Fatalf("Do of slot %d of bank %d with %d bits: %v", i, at, k, e)
						}
					}
				}
			}
			check(t, "Do without a bank", b, m)
			checkSearch(t, "Do without a bank", b, m, addresses())
		}
	}
}

// TestDoBad has writes that a bank does not take: of slots that there are not,
// which come ahead, and of slots that are not valid. Nothing changes.
func TestDoBad(t *testing.T) { // P17.1
	for k, banks := range many {
		for _, n := range []int{1, 2, 255, 256} {
			b, m := filled(t, k, n)
			for at := range banks {
				for _, s := range slices.Concat(good(), bad()) {
					for _, i := range append([]int{n, n + 1, 2 * n, n * banks}, strange...) {
						if e := b.Do(move(at, i, s)); i >= n && e != api.ErrSlot || i < 0 && e != api.ErrSlot {
							t.Fatalf("Do of slot %d of %d: %v", i, n, e)
						}
					}
				}
				for _, s := range bad() {
					for _, i := range []int{0, n / 2, n - 1} {
						if e := b.Do(move(at, i, s)); e != api.ErrBad {
							t.Fatalf("Do of %v: %v", s, e)
						}
					}
				}
			}
			check(t, "Do of what is not valid", b, m)
			checkSearch(t, "Do of what is not valid", b, m, addresses())
		}
	}
}

// TestSearch has all contents of small boards.
func TestSearch(t *testing.T) { // P17.1
	for _, c := range []struct{ k, n, kinds int }{{0, 1, 6}, {0, 4, 6}, {1, 1, 6}, {1, 2, 6}, {2, 1, 6}, {1, 3, 3}, {2, 2, 3}, {3, 1, 3}} {
		lists(good()[:c.kinds], many[c.k]*c.n, func(l []bank.Slot) {
			b, m := made(t, c.k, c.n), modelOf(c.k, c.n)
			for i, s := range l {
				do(t, b, &m, move(i/c.n, i%c.n, s))
			}
			check(t, "a small board", b, m)
			checkSearch(t, "a small board", b, m, short())
		})
	}
}

// TestSearchAtEach has one slot that matches, at each place of a board: only the
// addresses of its bank find it.
func TestSearchAtEach(t *testing.T) { // P17.1
	s := shaped("", 9)
	for k, banks := range many {
		b, m := made(t, k, most), modelOf(k, most)
		for at := range banks {
			for i := range most {
				if e := b.Do(move(at, i, s)); e != api.OK {
					t.Fatalf("Do of slot %d of bank %d: %v", i, at, e)
				}
				for _, a := range short() {
					want := found{bank: bankOf(k, a)}
					if want.bank == at {
						want = found{bank: at, slot: i, is: true, action: 9}
					}
					if got := asked(b, a); got != want {
						t.Fatalf("slot %d of bank %d, %x: %+v, not %+v", i, at, a, got, want)
					}
				}
				do(t, b, &m, move(at, i, bank.Slot{}))
			}
		}
		m.writes += banks * most
		check(t, "each slot, emptied", b, m)
	}
}

// TestEachBit turns each bit of an address. The first bits select another bank;
// the others matter only to the words.
func TestEachBit(t *testing.T) { // P17.1
	for k, banks := range many {
		b := made(t, k, 2)
		for at := range banks {
			b.Do(move(at, 1, shaped("", 10+at)))
		}
		for i := range 128 {
			b.Do(move(bankOf(k, addr.Addr{}), 0, bank.Slot{}))
			a := addr.With(addr.Addr{}, i, true)
			at := 0
			if i < k {
				at = banks >> (i + 1)
			}
			if got, want := asked(b, a), (found{bank: at, slot: 1, is: true, action: 10 + at}); got != want {
				t.Fatalf("bit %d with %d bits: %+v, not %+v", i, k, got, want)
			}
			own := bank.Slot{Valid: true, E: entry.Of(prefix.Make(a, 128), 200)}
			b.Do(move(at, 0, own))
			if got, want := asked(b, a), (found{bank: at, is: true, action: 200}); got != want {
				t.Fatalf("bit %d with %d bits, in slot 0: %+v, not %+v", i, k, got, want)
			}
			if got := asked(b, addr.Addr{}); got != (found{slot: 1, is: true, action: 10}) {
				t.Fatalf("bit %d with %d bits, not set: %+v", i, k, got)
			}
			b.Do(move(at, 0, bank.Slot{}))
		}
	}
}

// TestActions has each Action that an entry may have.
func TestActions(t *testing.T) { // P17.1
	b := made(t, 1, 1)
	low, high := addr.Addr{1}, addr.Addr{1 << 63}
	for action := 1; action <= 255; action++ {
		b.Do(move(1, 0, shaped("", action)))
		if b.Tell(high) != action || b.Tell(low) != 0 {
			t.Errorf("Tell of the Action %d: %d, and %d in the other bank", action, b.Tell(high), b.Tell(low))
		}
	}
	b.Do(move(1, 0, bank.Slot{}))
	if b.Tell(high) != 0 {
		t.Errorf("Tell of an empty board: %d", b.Tell(high))
	}
}

// TestNumbers has counts that are written out.
func TestNumbers(t *testing.T) { // P17.1
	b := made(t, 2, 2)
	full := shaped("", 1)
	for _, c := range []struct {
		m             job.Move
		writes, valid int
	}{
		{move(0, 0, full), 1, 1},
		{move(3, 1, full), 2, 2},
		{move(3, 1, full), 3, 2},
		{move(3, 1, shaped("0", 2)), 4, 2},
		{move(1, 0, bank.Slot{}), 5, 2},
		{move(3, 2, full), 5, 2},
		{move(4, 0, full), 5, 2},
		{move(0, 0, shaped("", 0)), 5, 2},
		{move(2, 1, full), 6, 3},
		{move(0, 0, bank.Slot{}), 7, 2},
		{move(0, 0, bank.Slot{}), 8, 2},
	} {
		b.Do(c.m)
		if b.Writes() != c.writes || b.Valid() != c.valid {
			t.Errorf("after %v: Writes %d, Valid %d, not %d, %d", c.m, b.Writes(), b.Valid(), c.writes, c.valid)
		}
	}
}

// TestFull has all slots of the greatest board valid.
func TestFull(t *testing.T) { // P17.1
	b := made(t, 3, most)
	for at := range 8 {
		for i := range most {
			b.Do(move(at, i, shaped("", 1+at)))
		}
	}
	if b.Writes() != 8*most || b.Valid() != 8*most {
		t.Errorf("Writes %d, Valid %d", b.Writes(), b.Valid())
	}
}

// TestSlots changes what Slots returned, with its spare memory, and appends to it:
// neither the board nor another list changes, nor does a list with the board.
func TestSlots(t *testing.T) { // P17.1
	for k := range many {
		for _, n := range sizes {
			b, m := filled(t, k, n)
			first, second := b.Slots(), b.Slots()
			for at := range first {
				_ = append(first[at], shaped("", 77))
				if !same(first, m.slots) {
					t.Fatalf("the lists of two banks share memory behind bank %d", at)
				}
			}
			for at := range first {
				l := first[at][:cap(first[at])]
				for i := range l {
					l[i] = shaped("", 78)
				}
				if !same(first[at+1:], m.slots[at+1:]) {
					t.Fatalf("the lists of two banks share memory with bank %d", at)
				}
			}
			clear(first[:cap(first)])
			if !same(second, m.slots) {
				t.Fatal("two results of Slots share memory")
			}
			check(t, "Slots, changed", b, m)
			checkSearch(t, "Slots, changed", b, m, short())
			was := m.copied()
			do(t, b, &m, move(many[k]-1, n-1, shaped("", 1)))
			do(t, b, &m, move(0, 0, shaped("10", 3)))
			if !same(second, was.slots) {
				t.Fatal("Slots change with the board")
			}
			check(t, "Slots, and Do", b, m)
		}
	}
}

// TestCopy has a copy and a copy of it, each of which is changed alone.
func TestCopy(t *testing.T) { // P17.1
	for k, banks := range many {
		for _, n := range sizes {
			b, m := filled(t, k, n)
			c, d := b.Copy(), b.Copy().Copy()
			ofC, ofD := m.copied(), m.copied()
			checkAll := func(what string) {
				t.Helper()
				check(t, what, b, m)
				check(t, what, c, ofC)
				check(t, what, d, ofD)
				checkSearch(t, what, b, m, short())
				checkSearch(t, what, c, ofC, short())
				checkSearch(t, what, d, ofD, short())
			}
			checkAll("Copy")
			for at := range banks {
				do(t, c, &ofC, move(at, n-1, shaped("...1", 2)))
				checkAll("Do of a copy")
				do(t, b, &m, move(at, 0, shaped("", 1)))
				do(t, b, &m, move(at, n/2, bank.Slot{}))
				checkAll("Do of what was copied")
				do(t, d, &ofD, move(at, n/2, shaped("0.1", 4)))
				checkAll("Do of a copy of a copy")
			}
			for _, x := range []*board.Board{b, c, d} {
				if e := x.Do(move(banks, 0, bank.Slot{})); e != api.ErrSlot {
					t.Fatalf("Do of bank %d: %v", banks, e)
				}
			}
			checkAll("Do without a bank")
		}
	}
	for k := range many {
		check(t, "Copy of an empty board", made(t, k, 3).Copy(), modelOf(k, 3))
	}
}

// TestAsked asks a board for all that it tells, several times: nothing changes by
// that, and nothing that is told.
func TestAsked(t *testing.T) { // P17.1
	b, m := filled(t, 2, 5)
	for range 3 {
		check(t, "asked", b, m)
		checkSearch(t, "asked", b, m, addresses())
		b.Copy().Do(move(1, 1, bank.Slot{}))
		b.Slots()[1][1] = bank.Slot{}
	}
}

// TestWithoutPattern has moves of all sorts, done by a board, by a model, and by
// banks of their own, with what all of them tell in between.
func TestWithoutPattern(t *testing.T) { // P17.1
	next := sequence(5)
	slots := slices.Concat(good(), good(), good(), bad())
	for round := range 200 {
		k, n := round%4, sizes[next(len(sizes))]
		b, m := made(t, k, n), modelOf(k, n)
		var banks []*bank.Bank
		for range many[k] {
			x, _ := bank.New(n)
			banks = append(banks, x)
		}
		for step := range 100 {
			x := move(next(many[k]+2)-1, next(n+2)-1, slots[next(len(slots))])
			if x.Bank >= 0 && x.Bank < many[k] {
				banks[x.Bank].Do(x.W)
			}
			do(t, b, &m, x)
			if next(10) == 0 {
				b = b.Copy()
			}
			if step%20 == 0 {
				check(t, "a move", b, m)
				checkSearch(t, "a move", b, m, short())
			}
		}
		check(t, "moves", b, m)
		checkSearch(t, "moves", b, m, addresses())
		writes := 0
		for at, x := range banks {
			writes += x.Writes()
			if !slices.Equal(b.Slots()[at], x.Slots()) {
				t.Fatalf("bank %d: %v, not %v", at, b.Slots()[at], x.Slots())
			}
		}
		if b.Writes() != writes {
			t.Fatalf("Writes: %d, not %d", b.Writes(), writes)
		}
	}
}

// TestJob has a board execute jobs, up to a move that it does not take.
func TestJob(t *testing.T) { // P17.1
	b, m := made(t, 1, 2), modelOf(1, 2)
	l := []job.Move{move(1, 1, shaped("10", 3)), move(0, 0, shaped("", 1)), move(2, 0, shaped("", 1)), move(1, 0, shaped("", 1))}
	j := job.New(l)
	if n, e := j.Run(b.Do, 9); n != 2 || e != api.ErrSlot || j.Left() != 2 {
		t.Fatalf("Run: %d, %v, %d left", n, e, j.Left())
	}
	m.do(l[0])
	m.do(l[1])
	check(t, "Run", b, m)
	checkSearch(t, "Run", b, m, addresses())
	rest := job.New(l[3:])
	if e := rest.Step(b.Do); e != api.OK || rest.Left() != 0 {
		t.Fatalf("Step: %v", e)
	}
	m.do(l[3])
	check(t, "Step", b, m)
}

// checkApart does a move, and asks all addresses before and after: those of other
// banks have nothing changed. It returns how many others have.
func checkApart(t *testing.T, b *board.Board, x job.Move) int {
	t.Helper()
	before := map[addr.Addr]found{}
	for _, a := range addresses() {
		before[a] = asked(b, a)
	}
	b.Do(x)
	changed := 0
	for a, was := range before {
		switch now := asked(b, a); {
		case now == was:
		case bankOf(b.Bits(), a) == x.Bank:
			changed++
		default:
			t.Fatalf("%v changes %x of another bank from %+v to %+v", x, a, was, now)
		}
	}
	return changed
}

// TestApart has each slot of small boards written, with words that concern other
// banks, too, or only those.
func TestApart(t *testing.T) { // P17.2
	for k, banks := range many {
		for _, n := range []int{1, 2, 3} {
			start, _ := filled(t, k, n)
			empty := made(t, k, n)
			changed := 0
			for at := -1; at <= banks; at++ {
				for i := -1; i <= n; i++ {
					for _, s := range slices.Concat(good(), bad()) {
						changed += checkApart(t, start.Copy(), move(at, i, s))
						changed += checkApart(t, empty.Copy(), move(at, i, s))
					}
				}
			}
			if changed == 0 {
				t.Errorf("with %d bits and %d slots, no write changes any address", k, n)
			}
		}
	}
}

// TestApartWithoutPattern has boards that are written on and on.
func TestApartWithoutPattern(t *testing.T) { // P17.2
	next := sequence(6)
	from := good()
	for round := range 80 {
		k, n := 1+round%3, 1+next(6)
		b := made(t, k, n)
		changed := 0
		for range 60 {
			changed += checkApart(t, b, move(next(many[k]), next(n), from[next(len(from))]))
		}
		if changed == 0 {
			t.Errorf("round %d: no write changes any address", round)
		}
	}
}

// TestSplit has sorted entries of prefixes in the banks that they concern: the
// board tells what the entries tell, with each index.
func TestSplit(t *testing.T) { // P17.1
	next := sequence(7)
	for range 60 {
		var l []entry.Entry
		for v := range 1 + next(40) {
			first := addr.Addr{uint64(next(1<<7)) << 57}
			l = append(l, entry.Of(prefix.Make(first, next(8)), 1+v))
		}
		l = entry.Sort(l)
		for k := range many {
			b := made(t, k, len(l))
			for at := range many[k] {
				for i, x := range split.Part(k, at, l) {
					b.Do(move(at, i, bank.Slot{Valid: true, E: x}))
				}
			}
			if b.Valid() != len(l)+split.Copies(k, l) || b.Writes() != b.Valid() {
				t.Fatalf("%d entries with %d bits: %d valid, %d writes", len(l), k, b.Valid(), b.Writes())
			}
			for v := range uint64(1 << 7) {
				a := addr.Addr{v<<57 | 5, 3}
				if got, want := b.Tell(a), entry.Tell(l, a); got != want {
					t.Fatalf("Tell(%x) with %d bits: %d, not %d", a, k, got, want)
				}
			}
		}
	}
}

// TestStrangers has an entry in a bank that its word does not concern: it is in
// the slots and in the numbers, but no address finds it.
func TestStrangers(t *testing.T) { // P17.1
	b := made(t, 1, 1)
	high := shaped("1", 6)
	b.Do(move(0, 0, high))
	if got := b.Slots(); len(got) != 2 || got[0][0] != high || b.Valid() != 1 || b.Writes() != 1 {
		t.Errorf("an entry in another bank: %v", got)
	}
	for _, a := range addresses() {
		if got, want := asked(b, a), (found{bank: bankOf(1, a)}); got != want {
			t.Errorf("%x: %+v, not %+v", a, got, want)
		}
	}
}

// TestSeveral has several boards by turns: each has a state of its own.
func TestSeveral(t *testing.T) { // P17.1
	var boards []*board.Board
	var models []model
	for i := range 8 {
		boards = append(boards, made(t, i%4, 3))
		models = append(models, modelOf(i%4, 3))
	}
	next := sequence(8)
	from := good()
	for range 300 {
		i := next(len(boards))
		do(t, boards[i], &models[i], move(next(many[i%4]), next(3), from[next(len(from))]))
		for j, b := range boards {
			check(t, fmt.Sprint("board ", j), b, models[j])
			checkSearch(t, fmt.Sprint("board ", j), b, models[j], short())
		}
	}
}

func TestExample(t *testing.T) { // example 1
	b := made(t, 1, 2)
	a := addr.Addr{0x80 << 56}
	if at, k, is := b.Search(a); at != 1 || k != 0 || is {
		t.Errorf("128.0.0.0 is searched for in bank %d: %d, %t", at, k, is)
	}
	b.Do(move(1, 1, shaped("1", 5)))
	if at, k, is := b.Search(a); at != 1 || k != 1 || !is || b.Tell(a) != 5 {
		t.Errorf("128.0.0.0 is found in bank %d: %d, %t, %d", at, k, is, b.Tell(a))
	}
}
