package word_test

import (
	"fmt"
	"math"
	"slices"
	"strings"
	"testing"

	"pigeonhole/addr"
	"pigeonhole/prefix"
	"pigeonhole/word"
)

const (
	all  = 128
	ones = ^uint64(0)
)

// lengths are all that a prefix can have, and some that it cannot.
func lengths() []int {
	l := []int{
		-1, -2, -8, -64, -127, -128, -129, -256, -1<<32 + 8, math.MinInt32, math.MinInt, math.MinInt + 8,
		129, 130, 136, 160, 192, 255, 256, 256 + 8, 1000, 1<<16 + 8, 1<<32 + 8, math.MaxInt32, math.MaxInt - 1, math.MaxInt,
	}
	for n := range all + 1 {
		l = append(l, n)
	}
	return l
}

// sequence makes numbers without a pattern, always the same ones.
func sequence(seed uint64) func() uint64 {
	x := seed
	return func() uint64 {
		x = x*6364136223846793005 + 1442695040888963407
		return x ^ x>>29
	}
}

// addresses are edges of both words, and some without a pattern.
func addresses() []addr.Addr {
	l := []addr.Addr{
		{}, {0, 1}, {0, 1 << 63}, {1, 0}, {1 << 63, 0}, {ones, 0}, {0, ones}, {ones, ones}, {ones >> 1, ones},
		{0x0a00000000000000, 0}, {0x0a01000000000000, 0}, {0x0a01020300000000, 1}, {0xaaaaaaaaaaaaaaaa, 0x5555555555555555},
	}
	next := sequence(7)
	for range 6 {
		l = append(l, addr.Addr{next(), next()})
	}
	return l
}

// masks are those of prefixes, and others: with one bit, without one, with the
// same bits free in each part, and without a pattern.
func masks() []addr.Addr {
	l := []addr.Addr{
		{}, {ones, ones}, {ones, 0}, {0, ones}, {1, 0}, {0, 1}, {1 << 63, 0}, {0, 1 << 63}, {ones - 1, ones}, {ones, ones - 1},
		{ones >> 1, ones}, {ones, ones >> 1}, {0xff00000000000000, 0}, {0xffffffff00000000, 0}, {0xff7fffffffffffff, ones},
		{ones, 0xff00ff00ff00ff00}, {0xaaaaaaaaaaaaaaaa, 0xaaaaaaaaaaaaaaaa},
	}
	next := sequence(11)
	for range 3 {
		l = append(l, addr.Addr{next(), next()})
	}
	return l
}

// words have all these masks with all these values: most of them have bits at
// free positions, and so are not valid.
func words() []word.Word {
	var l []word.Word
	for _, m := range masks() {
		for _, a := range addresses() {
			l = append(l, word.Word{Value: a, Mask: m})
		}
	}
	return l
}

// digits is an address as 128 binary digits, bit 0 first.
func digits(a addr.Addr) string { return fmt.Sprintf("%064b%064b", a[0], a[1]) }

// pattern is a word as 128 characters, a star for each free bit: what the
// package answers is held against these texts and not against words.
func pattern(x word.Word) string {
	s, m := []byte(digits(x.Value)), digits(x.Mask)
	for k := range s {
		if m[k] == '0' {
			s[k] = '*'
		}
	}
	return string(s)
}

// number reads binary digits.
func number(s string) addr.Addr {
	var a addr.Addr
	for k := range s {
		a[k/64] = a[k/64]<<1 | uint64(s[k]-'0')
	}
	return a
}

// valid is the one valid word that has a pattern.
func valid(s string) word.Word {
	mask := strings.NewReplacer("0", "1", "*", "0").Replace(s)
	return word.Word{Value: number(strings.ReplaceAll(s, "*", "0")), Mask: number(mask)}
}

// filled is the address of a pattern with the same digit at all free bits.
func filled(s, digit string) addr.Addr { return number(strings.ReplaceAll(s, "*", digit)) }

func replaced(s string, k int, c byte) string { return s[:k] + string(c) + s[k+1:] }

// flipped is an address with one bit turned.
func flipped(a addr.Addr, k int) addr.Addr { return addr.With(a, k, !addr.Bit(a, k)) }

// matches is the document's own definition.
func matches(s, digits string) bool {
	for k := range s {
		if s[k] != '*' && s[k] != digits[k] {
			return false
		}
	}
	return true
}

// meet tells whether no bit is told differently by two patterns.
func meet(s, t string) bool {
	for k := range s {
		if s[k] != '*' && t[k] != '*' && s[k] != t[k] {
			return false
		}
	}
	return true
}

// covers tells whether one pattern tells no bit that the other one does not
// tell likewise.
func covers(s, t string) bool {
	for k := range s {
		if s[k] != '*' && s[k] != t[k] {
			return false
		}
	}
	return true
}

// both is what two patterns that meet tell together.
func both(s, t string) string {
	b := []byte(s)
	for k := range b {
		if b[k] == '*' {
			b[k] = t[k]
		}
	}
	return string(b)
}

// merged is a pattern that stands for two ones, if there is one.
func merged(s, t string) (string, bool) {
	at, differ := 0, 0
	for k := range s {
		if (s[k] == '*') != (t[k] == '*') {
			return "", false
		}
		if s[k] != t[k] {
			at = k
			differ++
		}
	}
	if differ != 1 {
		return "", false
	}
	return replaced(s, at, '*'), true
}

func TestRight(t *testing.T) { // P4.1
	for _, x := range words() {
		if got, want := word.Right(x), x == valid(pattern(x)); got != want {
			t.Errorf("Right(%x): %t", x, got)
		}
		if x = valid(pattern(x)); !word.Right(x) {
			t.Errorf("Right(%x) is false", x)
		}
	}
}

// TestRightAtEachBit has words with one bit in Value, and one in Mask.
func TestRightAtEachBit(t *testing.T) { // P4.1
	for k := range all {
		one := addr.With(addr.Addr{}, k, true)
		for m := range all {
			x := word.Word{Value: one, Mask: addr.With(addr.Addr{}, m, true)}
			if got := word.Right(x); got != (k == m) {
				t.Errorf("Right of the bit %d with the mask %d: %t", k, m, got)
			}
		}
		for _, x := range []word.Word{{Mask: one}, {Value: one, Mask: addr.Addr{ones, ones}}, {Value: addr.Not(one), Mask: addr.Not(one)}} {
			if !word.Right(x) {
				t.Errorf("Right(%x) is false", x)
			}
		}
		if x := (word.Word{Value: addr.Addr{ones, ones}, Mask: addr.Not(one)}); word.Right(x) {
			t.Errorf("Right(%x) is true", x)
		}
	}
}

func TestOf(t *testing.T) { // P4.1
	for _, a := range addresses() {
		for _, n := range lengths() {
			p := prefix.Prefix{A: a, Len: n}
			x := word.Of(p)
			first := digits(a)[:min(max(n, 0), all)]
			if want := valid(first + strings.Repeat("*", all-len(first))); x != want {
				t.Errorf("Of(%x/%d): %x", a, n, x)
			}
			if x.Mask != addr.Mask(n) {
				t.Errorf("Of(%x/%d): the mask %x", a, n, x.Mask)
			}
			if !word.Right(x) {
				t.Errorf("Of(%x/%d): %x is not valid", a, n, x)
			}
			for _, b := range append(addresses(), flipped(a, 0), flipped(a, 15), flipped(a, 64), flipped(a, 127)) {
				if got := word.Match(x, b); got != prefix.Match(p, b) {
					t.Errorf("Match of Of(%x/%d) and %x: %t", a, n, b, got)
				}
			}
		}
	}
}

func TestMatch(t *testing.T) { // P4.1
	for _, x := range words() {
		s := pattern(x)
		for _, a := range addresses() {
			if got, want := word.Match(x, a), matches(s, digits(a)); got != want {
				t.Errorf("Match(%s, %x): %t", s, a, got)
			}
		}
	}
}

// TestMatchAtEachBit turns one bit of addresses that are matched.
func TestMatchAtEachBit(t *testing.T) { // P4.1
	for _, x := range words() {
		s := pattern(x)
		for _, a := range []addr.Addr{filled(s, "0"), filled(s, "1"), x.Value} {
			if !word.Match(x, a) {
				t.Errorf("Match(%s, %x) is false", s, a)
			}
			for k := range all {
				if got := word.Match(x, flipped(a, k)); got != (s[k] == '*') {
					t.Errorf("Match(%s, %x) with the bit %d turned: %t", s, a, k, got)
				}
			}
		}
	}
}

func TestFree(t *testing.T) { // P4.1
	for _, x := range words() {
		if got, want := word.Free(x), strings.Count(pattern(x), "*"); got != want {
			t.Errorf("Free(%x): %d", x, got)
		}
	}
	for n := range all + 1 {
		for _, a := range []addr.Addr{{}, {ones, ones}} {
			if got := word.Free(word.Word{Value: a, Mask: addr.Mask(n)}); got != all-n {
				t.Errorf("Free with the mask of %d bits: %d", n, got)
			}
		}
	}
}

// TestPairs holds what two words are to each other against their patterns.
func TestPairs(t *testing.T) { // P4.1, P4.2
	l := words()
	patterns := make([]string, len(l))
	for i, x := range l {
		patterns[i] = pattern(x)
	}
	for i, x := range l {
		for j, y := range l {
			s, u := patterns[i], patterns[j]
			if got := word.Covers(x, y); got != covers(s, u) {
				t.Errorf("Covers(%x, %x): %t", x, y, got)
			}
			if got := word.Meet(x, y); got != meet(s, u) {
				t.Errorf("Meet(%x, %x): %t", x, y, got)
			}
			checkBoth(t, x, y, s, u)
			checkMerge(t, x, y, s, u)
		}
	}
}

// checkBoth holds Both of two words against their patterns.
func checkBoth(t *testing.T, x, y word.Word, s, u string) {
	t.Helper()
	var want word.Word
	is := meet(s, u)
	if is {
		want = valid(both(s, u))
	}
	if got, ok := word.Both(x, y); got != want || ok != is {
		t.Errorf("Both(%x, %x): %x, %t", x, y, got, ok)
	}
}

// checkMerge holds Merge of two words against their patterns.
func checkMerge(t *testing.T, x, y word.Word, s, u string) {
	t.Helper()
	var want word.Word
	z, is := merged(s, u)
	if is {
		want = valid(z)
	}
	if got, ok := word.Merge(x, y); got != want || ok != is {
		t.Errorf("Merge(%x, %x): %x, %t", x, y, got, ok)
	}
}

// TestPairsAtEachBit has neighbors of each word: with one bit of the value
// turned, with one bit of the mask turned, and with both.
func TestPairsAtEachBit(t *testing.T) { // P4.1, P4.2
	for i, x := range words() {
		if i%3 != 0 { // the others differ in values alone
			continue
		}
		s := pattern(x)
		for k := range all {
			for _, y := range []word.Word{
				{Value: flipped(x.Value, k), Mask: x.Mask},
				{Value: x.Value, Mask: flipped(x.Mask, k)},
				{Value: flipped(x.Value, k), Mask: flipped(x.Mask, k)},
			} {
				u := pattern(y)
				if got := word.Covers(x, y); got != covers(s, u) {
					t.Errorf("Covers(%x, %x): %t", x, y, got)
				}
				if got := word.Covers(y, x); got != covers(u, s) {
					t.Errorf("Covers(%x, %x): %t", y, x, got)
				}
				if a, b := word.Meet(x, y), word.Meet(y, x); a != meet(s, u) || b != a {
					t.Errorf("Meet of %x and %x: %t, %t", x, y, a, b)
				}
				checkBoth(t, x, y, s, u)
				checkBoth(t, y, x, u, s)
				checkMerge(t, x, y, s, u)
				checkMerge(t, y, x, u, s)
			}
		}
	}
}

// TestMergeTwoBits turns two bits of the value: they merge if exactly one of
// these bits is told.
func TestMergeTwoBits(t *testing.T) { // P4.2
	for _, m := range []addr.Addr{{ones, ones}, {0xff00000000000000, 0}, {0xaaaaaaaaaaaaaaaa, 0x5555555555555555}, {0, 1}, {}} {
		x := word.Word{Value: addr.Addr{0x0a01020304050607, 0xf0f1f2f3f4f5f6f7}, Mask: m}
		s := pattern(x)
		for k := range all {
			for j := range k {
				y := word.Word{Value: flipped(flipped(x.Value, k), j), Mask: m}
				checkMerge(t, x, y, s, pattern(y))
				checkMerge(t, y, x, pattern(y), s)
			}
		}
	}
}

// TestMergeOtherMask has words whose values differ in one bit that both tell,
// but whose masks are not the same.
func TestMergeOtherMask(t *testing.T) { // P4.2
	for k := range all {
		for j := range all {
			if j == k {
				continue
			}
			one := addr.With(addr.Addr{}, k, true)
			two := addr.With(one, j, true)
			if got, ok := word.Merge(word.Word{Mask: two}, word.Word{Value: one, Mask: one}); ok || got != (word.Word{}) {
				t.Errorf("Merge with the masks %x and %x: %x, %t", two, one, got, ok)
			}
		}
	}
}

// spots are the bits that differ among the words of few: the edges of both
// halves of an address.
var spots = [4]int{0, 63, 64, 127}

// few are all words whose value and mask are some at the spots and the same
// elsewhere, and the addresses that matter for them.
func few(value, mask addr.Addr) ([]word.Word, []addr.Addr) {
	var l []word.Word
	var addrs []addr.Addr
	for v := range 16 {
		a := scattered(value, v)
		addrs = append(addrs, a)
		for m := range 16 {
			l = append(l, word.Word{Value: a, Mask: scattered(mask, m)})
		}
	}
	return l, addrs
}

// scattered has the bits of a number at the spots.
func scattered(a addr.Addr, v int) addr.Addr {
	for i, k := range spots {
		a = addr.With(a, k, v>>i&1 == 1)
	}
	return a
}

// TestAllAddresses holds all pairs of few words against what the document says
// of the addresses that they match, each of which is tried.
func TestAllAddresses(t *testing.T) { // P4.1, P4.2
	rest := addr.Addr{0x0a01020304050606, 0x70f1f2f3f4f5f6f6}
	for _, mask := range []addr.Addr{{ones, ones}, {}, {0xff00ff00ff00ff00, 0x0f0f0f0f0f0f0f0f}} {
		l, addrs := few(rest, mask)
		for _, x := range l {
			for _, y := range l {
				checkPair(t, x, y, addrs)
			}
		}
	}
}

// checkPair tries all addresses on two words, and on what is made of them.
func checkPair(t *testing.T, x, y word.Word, addrs []addr.Addr) {
	t.Helper()
	b, isBoth := word.Both(x, y)
	m, isMerged := word.Merge(x, y)
	covers, meet := true, false
	for _, a := range addrs {
		inX, inY := word.Match(x, a), word.Match(y, a)
		covers = covers && (inX || !inY)
		meet = meet || inX && inY
		if isBoth && word.Match(b, a) != (inX && inY) {
			t.Errorf("Both(%x, %x) is %x, for the address %x", x, y, b, a)
		}
		if isMerged && word.Match(m, a) != (inX || inY) {
			t.Errorf("Merge(%x, %x) is %x, for the address %x", x, y, m, a)
		}
	}
	if got := word.Covers(x, y); got != covers {
		t.Errorf("Covers(%x, %x): %t", x, y, got)
	}
	if got := word.Meet(x, y); got != meet || isBoth != meet {
		t.Errorf("Meet(%x, %x): %t, Both %t", x, y, got, isBoth)
	}
	if !word.Right(b) || !word.Right(m) {
		t.Errorf("of %x and %x: %x or %x is not valid", x, y, b, m)
	}
	if !isBoth && b != (word.Word{}) || !isMerged && m != (word.Word{}) {
		t.Errorf("of %x and %x: %x or %x beside false", x, y, b, m)
	}
}

// numbers are edges, each bit alone, and some without a pattern.
func numbers() []int {
	l := []int{0, 3, 5, 6, 255, 256, math.MaxInt32, math.MinInt32, math.MaxUint32, math.MaxInt, math.MinInt, math.MinInt + 1, -1, -2, -3, -256}
	for k := range 64 {
		l = append(l, 1<<k)
	}
	next := sequence(13)
	for range 8 {
		l = append(l, int(next()))
	}
	return l
}

// some is the document's own definition: digits of a number, the last one
// first, at the stars of a pattern, the last one first.
func some(s string, n int) addr.Addr {
	b, left := []byte(s), fmt.Sprintf("%064b", uint64(n))
	for k := len(b) - 1; k >= 0; k-- {
		if b[k] != '*' {
			continue
		}
		b[k] = '0'
		if left != "" {
			b[k] = left[len(left)-1]
			left = left[:len(left)-1]
		}
	}
	return number(string(b))
}

func TestSome(t *testing.T) { // P4.2
	for _, x := range words() {
		s := pattern(x)
		for _, n := range numbers() {
			got := word.Some(x, n)
			if want := some(s, n); got != want {
				t.Errorf("Some(%s, %d): %x, not %x", s, n, got, want)
			}
			if !word.Match(x, got) {
				t.Errorf("Some(%s, %d): %x is not matched", s, n, got)
			}
		}
	}
}

// TestSomeFreeBits has as many free bits as a number has, one more and one
// less, at both ends.
func TestSomeFreeBits(t *testing.T) { // P4.2
	for free := range all + 1 {
		for _, m := range []addr.Addr{addr.Mask(all - free), addr.Not(addr.Mask(free))} {
			x := word.Word{Value: addr.Addr{ones, ones}, Mask: m}
			s := pattern(x)
			for _, n := range []int{0, 1, -1, math.MinInt, math.MaxInt} {
				if got, want := word.Some(x, n), some(s, n); got != want {
					t.Errorf("Some(%s, %d): %x, not %x", s, n, got, want)
				}
			}
		}
	}
	if got, want := word.Some(word.Word{}, -1), (addr.Addr{0, ones}); got != want {
		t.Errorf("Some of the zero word and -1: %x", got)
	}
	if got, want := word.Some(word.Word{Mask: addr.Addr{0, 1}}, -1), (addr.Addr{1, ones - 1}); got != want {
		t.Errorf("Some of the word with the last bit and -1: %x", got)
	}
}

// TestSomeIsEach finds every address of words with few free bits, and each of
// them once.
func TestSomeIsEach(t *testing.T) { // P4.2
	value := addr.Addr{0x0a01020304050607, 0x8899aabbccddeeff}
	for free := range 5 {
		x := word.Word{Value: value, Mask: addr.Addr{ones, ones}}
		for _, k := range spots[:free] {
			x.Mask = addr.With(x.Mask, k, false)
		}
		var l []addr.Addr
		for n := range 1 << free {
			a := word.Some(x, n)
			if !word.Match(x, a) || slices.Contains(l, a) {
				t.Errorf("Some(%x, %d): %x", x, n, a)
			}
			if again := word.Some(x, n+1<<free); again != a {
				t.Errorf("Some(%x, %d): %x, not %x", x, n+1<<free, again, a)
			}
			l = append(l, a)
		}
		if !slices.IsSortedFunc(l, addr.Compare) {
			t.Errorf("Some(%x): %x", x, l)
		}
	}
}

// four is a prefix of V4.
func four(a uint64, n int) prefix.Prefix {
	return prefix.Prefix{A: addr.Addr{a << 32, 0}, Len: n}
}

func TestExample(t *testing.T) { // example 1
	x, y := word.Of(four(0x0a000000, 9)), word.Of(four(0x0a800000, 9))
	if got, ok := word.Merge(x, y); !ok || got != word.Of(four(0x0a000000, 8)) {
		t.Errorf("Merge: %x, %t", got, ok)
	}
	if got, ok := word.Merge(x, word.Of(four(0x0b800000, 9))); ok || got != (word.Word{}) {
		t.Errorf("Merge of words that differ in two bits: %x, %t", got, ok)
	}
	ten := word.Of(four(0x0a000000, 8))
	if !word.Covers(ten, x) || word.Covers(x, ten) || !word.Meet(ten, x) || word.Meet(x, y) {
		t.Error("Covers or Meet of 10.0.0.0/8, 10.0.0.0/9 and 10.128.0.0/9")
	}
}
