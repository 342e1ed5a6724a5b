package prefix_test

import (
	"cmp"
	"fmt"
	"math"
	"slices"
	"strings"
	"testing"

	"pigeonhole/addr"
	"pigeonhole/prefix"
)

const (
	v4   = 32
	v6   = 128
	ones = ^uint64(0)
	left = ones ^ math.MaxUint32 // the half of a word that V4 uses
)

// families are the numbers that are one.
var families = []int{v4, v6}

// noFamilies are numbers that are none. Among them are those that a narrower
// integer, or one without a sign, would take for one.
var noFamilies = []int{
	0, 1, 4, 6, 16, 31, 33, 64, 96, 127, 129, 160, 256, 1000, -1, -32, -96, -128, -224,
	256 + 32, 256 + 128, 1<<16 + 32, 1<<32 + 32, 1<<32 + 128, -1<<32 + 32,
	math.MaxInt32, math.MinInt32, math.MaxInt, math.MinInt, math.MinInt + 32, math.MinInt + 128,
}

// below and beyond are lengths that no prefix has which is valid.
var (
	below  = []int{-1, -2, -8, -32, -64, -127, -128, -129, -256, -1<<32 + 8, math.MinInt32, math.MinInt, math.MinInt + 8}
	beyond = []int{129, 130, 136, 160, 192, 255, 256, 256 + 8, 1000, 1<<16 + 8, 1<<32 + 8, math.MaxInt32, math.MaxInt - 1, math.MaxInt}
)

// lengths are all that a prefix can have, and some that it cannot.
func lengths() []int {
	l := append([]int{}, below...)
	for n := range v6 + 1 {
		l = append(l, n)
	}
	return append(l, beyond...)
}

// addresses are edges of both words and of both families, and some without a
// pattern; several of them share long beginnings.
func addresses() []addr.Addr {
	l := []addr.Addr{
		{}, {0, 1}, {0, 1 << 63}, {1, 0}, {1 << 63, 0}, {1 << 32, 0}, {1 << 31, 0},
		{ones, 0}, {0, ones}, {ones, ones}, {ones, ones - 1}, {left, 0}, {ones >> 1, ones},
		{0x0a00000000000000, 0}, {0x0a01000000000000, 0}, {0x0a01020000000000, 0}, {0x0a01020300000000, 0},
		{0x0a01020300000000, 1}, {0x0a01020380000000, 0}, {0x0aaaaaaaaaaaaaaa, 0x5555555555555555},
	}
	x := uint64(7)
	next := func() uint64 {
		x = x*6364136223846793005 + 1442695040888963407
		return x
	}
	for range 4 {
		a := addr.Addr{next(), next()}
		l = append(l, a, addr.With(a, 40, !addr.Bit(a, 40)), addr.With(a, 100, !addr.Bit(a, 100)))
	}
	return l
}

// known keeps what digits made: the same addresses are asked for millions of
// times.
var known = map[addr.Addr]string{}

// digits is an address as 128 binary digits, bit 0 first: what the package
// answers is held against this text and not against words.
func digits(a addr.Addr) string {
	s, ok := known[a]
	if !ok {
		s = fmt.Sprintf("%064b%064b", a[0], a[1])
		known[a] = s
	}
	return s
}

// inside is a length as it counts.
func inside(n int) int { return min(max(n, 0), v6) }

// first is what an address begins with.
func first(a addr.Addr, n int) string { return digits(a)[:inside(n)] }

// filled is the address that begins with some digits and goes on with one.
func filled(s string, digit string) string { return s + strings.Repeat(digit, v6-len(s)) }

// valid is the document's own definition.
func valid(w int, p prefix.Prefix) bool {
	return (w == v4 || w == v6) && 0 <= p.Len && p.Len <= w && digits(p.A) == filled(first(p.A, p.Len), "0")
}

// covers is the document's own definition.
func covers(p, q prefix.Prefix) bool {
	return q.Len >= p.Len && strings.HasPrefix(digits(q.A), first(p.A, p.Len))
}

// all are prefixes of some lengths, edges of words and families among them:
// each cut, and with bits behind its length.
func all() []prefix.Prefix {
	var l []prefix.Prefix
	for _, a := range addresses() {
		for _, n := range []int{math.MinInt, -3, -1, 0, 1, 8, 15, 16, 31, 32, 33, 63, 64, 65, 101, 127, 128, 129, 140, math.MaxInt} {
			l = append(l, prefix.Prefix{A: a, Len: n}, prefix.Prefix{A: addr.Cut(a, n), Len: n})
		}
	}
	return l
}

// four is a prefix of V4.
func four(a uint64, n int) prefix.Prefix {
	return prefix.Prefix{A: addr.Addr{a << 32, 0}, Len: n}
}

func TestFamily(t *testing.T) { // P2.1
	for _, w := range families {
		if !prefix.Family(w) {
			t.Errorf("Family(%d) is false", w)
		}
	}
	for _, w := range noFamilies {
		if prefix.Family(w) {
			t.Errorf("Family(%d) is true", w)
		}
	}
}

func TestOf(t *testing.T) { // P2.1
	for _, a := range addresses() {
		if got, want := prefix.Of(v4, a), !strings.Contains(digits(a)[v4:], "1"); got != want {
			t.Errorf("Of(32, %x): %t", a, got)
		}
		if !prefix.Of(v6, a) {
			t.Errorf("Of(128, %x) is false", a)
		}
	}
	for k := range v6 {
		a := addr.With(addr.Addr{}, k, true)
		if got := prefix.Of(v4, a); got != (k < v4) {
			t.Errorf("Of(32) with bit %d: %t", k, got)
		}
		if !prefix.Of(v6, a) {
			t.Errorf("Of(128) with bit %d is false", k)
		}
	}
}

func TestOfNoFamily(t *testing.T) { // P2.1
	for _, w := range noFamilies {
		for _, a := range addresses() {
			if prefix.Of(w, a) {
				t.Errorf("Of(%d, %x) is true", w, a)
			}
		}
	}
}

func TestRight(t *testing.T) { // P2.1
	for _, a := range addresses() {
		for _, n := range lengths() {
			for _, p := range []prefix.Prefix{{A: a, Len: n}, {A: addr.Cut(a, n), Len: n}} {
				for _, w := range families {
					if got := prefix.Right(w, p); got != valid(w, p) {
						t.Errorf("Right(%d, %x/%d): %t", w, p.A, p.Len, got)
					}
				}
			}
		}
	}
}

// TestRightBitBehind has one bit set, in front of the end and behind it.
func TestRightBitBehind(t *testing.T) { // P2.1
	for _, w := range families {
		for n := range w + 1 {
			for k := range v6 {
				p := prefix.Prefix{A: addr.With(addr.Addr{}, k, true), Len: n}
				if got := prefix.Right(w, p); got != (k < n) {
					t.Errorf("Right(%d) of length %d with bit %d: %t", w, n, k, got)
				}
			}
		}
	}
}

func TestRightEdges(t *testing.T) { // P2.1
	for _, c := range []struct {
		w    int
		p    prefix.Prefix
		want bool
	}{
		{v4, prefix.Prefix{}, true},
		{v6, prefix.Prefix{}, true},
		{v4, four(0x0a000000, 8), true},
		{v6, four(0x0a000000, 8), true},
		{v4, four(0x0a000000, 7), true},
		{v4, four(0x0a000000, 6), false},
		{v4, four(0x0a010203, 32), true},
		{v4, four(0x0a010203, 31), false},
		{v4, four(0x0a010203, 33), false},
		{v6, four(0x0a010203, 33), true},
		{v4, four(0, 33), false},
		{v6, prefix.Prefix{A: addr.Addr{ones, ones}, Len: 128}, true},
		{v6, prefix.Prefix{A: addr.Addr{ones, ones}, Len: 127}, false},
		{v6, prefix.Prefix{A: addr.Addr{ones, ones}, Len: 129}, false},
		{v6, prefix.Prefix{Len: 129}, false},
		{v6, prefix.Prefix{Len: -1}, false},
		{v4, prefix.Prefix{Len: -1}, false},
	} {
		if got := prefix.Right(c.w, c.p); got != c.want {
			t.Errorf("Right(%d, %x/%d): %t", c.w, c.p.A, c.p.Len, got)
		}
	}
}

func TestRightNoFamily(t *testing.T) { // P2.1
	for _, w := range noFamilies {
		for _, p := range append(all(), prefix.Prefix{Len: w}) {
			if prefix.Right(w, p) {
				t.Errorf("Right(%d, %x/%d) is true", w, p.A, p.Len)
			}
		}
	}
}

func TestMake(t *testing.T) { // P2.1
	for _, a := range addresses() {
		for _, n := range lengths() {
			got := prefix.Make(a, n)
			if got.Len != inside(n) || digits(got.A) != filled(first(a, n), "0") {
				t.Errorf("Make(%x, %d): %x/%d", a, n, got.A, got.Len)
			}
			if !prefix.Right(v6, got) {
				t.Errorf("Make(%x, %d) is not valid", a, n)
			}
		}
	}
}

func TestMatch(t *testing.T) { // P2.2
	for _, p := range all() {
		for _, a := range addresses() {
			want := strings.HasPrefix(digits(a), first(p.A, p.Len))
			if got := prefix.Match(p, a); got != want {
				t.Errorf("Match(%x/%d, %x): %t", p.A, p.Len, a, got)
			}
		}
	}
}

// TestMatchEachBit turns one bit of the prefix's own address: only those in
// front of the end count, and all behind it may be set on either side.
func TestMatchEachBit(t *testing.T) { // P2.2
	for _, a := range addresses() {
		for _, n := range lengths() {
			p := prefix.Prefix{A: a, Len: n}
			if !prefix.Match(p, a) {
				t.Errorf("Match(%x/%d) of its own address is false", a, n)
			}
			for k := range v6 {
				turned := addr.With(a, k, !addr.Bit(a, k))
				if got := prefix.Match(p, turned); got != (k >= inside(n)) {
					t.Errorf("Match(%x/%d) with bit %d turned: %t", a, n, k, got)
				}
			}
		}
	}
}

func TestMatchLengthsThatCountAsOthers(t *testing.T) { // P2.2
	for _, a := range addresses() {
		for _, b := range addresses() {
			for _, n := range below {
				if !prefix.Match(prefix.Prefix{A: a, Len: n}, b) {
					t.Errorf("Match(%x/%d, %x) is false", a, n, b)
				}
			}
			for _, n := range beyond {
				if got := prefix.Match(prefix.Prefix{A: a, Len: n}, b); got != (a == b) {
					t.Errorf("Match(%x/%d, %x): %t", a, n, b, got)
				}
			}
		}
	}
}

func TestCoversAndApart(t *testing.T) { // P2.2
	l := all()
	for _, p := range l {
		for _, q := range l {
			there, back := covers(p, q), covers(q, p)
			if got := prefix.Covers(p, q); got != there {
				t.Fatalf("Covers(%x/%d, %x/%d): %t", p.A, p.Len, q.A, q.Len, got)
			}
			if got := prefix.Apart(p, q); got != (!there && !back) {
				t.Fatalf("Apart(%x/%d, %x/%d): %t", p.A, p.Len, q.A, q.Len, got)
			}
		}
	}
}

func TestCoversEdges(t *testing.T) { // P2.2
	a := addr.Addr{0x0a01020304050607, 9}
	for _, c := range []struct {
		p, q        prefix.Prefix
		there, back bool
	}{
		{four(0x0a000000, 8), four(0x0a010000, 16), true, false},
		{four(0x0a000000, 8), four(0x0a000000, 8), true, true},
		{four(0x0a000000, 8), four(0x0b000000, 8), false, false},
		{four(0x0a000000, 8), four(0x0b010000, 16), false, false},
		{four(0x0a000000, 8), four(0x0a000000, 7), false, true},
		{four(0x0a000000, 7), four(0x0b000000, 8), true, false},
		{prefix.Prefix{}, four(0x0a000000, 8), true, false},
		{prefix.Prefix{}, prefix.Prefix{}, true, true},
		{prefix.Prefix{A: a, Len: 127}, prefix.Prefix{A: a, Len: 128}, true, false},
		{four(0x0aff0000, 8), four(0x0a010000, 8), true, true},                                // bits behind the length
		{prefix.Prefix{A: a, Len: 128}, prefix.Prefix{A: a, Len: 129}, true, false},           // the lengths as they are
		{prefix.Prefix{A: a, Len: 200}, prefix.Prefix{A: a, Len: 150}, false, true},           // both count as 128
		{prefix.Prefix{A: a, Len: -5}, prefix.Prefix{Len: -3}, true, false},                   // both count as 0
		{prefix.Prefix{Len: math.MinInt}, prefix.Prefix{A: a, Len: math.MaxInt}, true, false}, // no difference overflows
	} {
		there, back, apart := prefix.Covers(c.p, c.q), prefix.Covers(c.q, c.p), prefix.Apart(c.p, c.q)
		if there != c.there || back != c.back || apart != (!c.there && !c.back) || apart != prefix.Apart(c.q, c.p) {
			t.Errorf("%x/%d and %x/%d: %t, %t, apart %t", c.p.A, c.p.Len, c.q.A, c.q.Len, there, back, apart)
		}
	}
}

func TestCompare(t *testing.T) { // P2.2
	l := all()
	for _, p := range l {
		for _, q := range l {
			want := strings.Compare(digits(p.A), digits(q.A))
			if want == 0 {
				want = cmp.Compare(p.Len, q.Len)
			}
			if got := prefix.Compare(p, q); got != want {
				t.Fatalf("Compare(%x/%d, %x/%d): %d", p.A, p.Len, q.A, q.Len, got)
			}
		}
	}
}

func TestCompareEdges(t *testing.T) { // P2.2
	for _, c := range []struct {
		p, q prefix.Prefix
		want int
	}{
		{four(0x0a000000, 8), four(0x0a010000, 16), -1},
		{four(0x0a000000, 16), four(0x0a000000, 8), 1},
		{four(0x0a000000, 8), four(0x0a000000, 8), 0},
		{four(0x0b000000, 8), four(0x0a000000, 32), 1}, // the addresses first
		{four(0x0a000001, 8), four(0x0a000000, 8), 1},  // all bits of an address
		{prefix.Prefix{Len: math.MinInt}, prefix.Prefix{Len: math.MaxInt}, -1},
		{prefix.Prefix{Len: math.MaxInt}, prefix.Prefix{Len: -1}, 1},
		{prefix.Prefix{Len: -1}, prefix.Prefix{}, -1}, // the lengths as they are
		{prefix.Prefix{Len: 129}, prefix.Prefix{Len: 128}, 1},
	} {
		if got, back := prefix.Compare(c.p, c.q), prefix.Compare(c.q, c.p); got != c.want || back != -c.want {
			t.Errorf("Compare(%x/%d, %x/%d): %d, and %d the other way", c.p.A, c.p.Len, c.q.A, c.q.Len, got, back)
		}
	}
}

func TestLast(t *testing.T) { // P2.3
	for _, w := range families {
		for _, a := range addresses() {
			for _, n := range lengths() {
				for _, p := range []prefix.Prefix{{A: a, Len: n}, {A: addr.Cut(a, n), Len: n}} {
					want := strings.Repeat("0", v6)
					if valid(w, p) {
						want = filled(filled(first(p.A, n), "1")[:w], "0")
					}
					if got := prefix.Last(w, p); digits(got) != want {
						t.Errorf("Last(%d, %x/%d): %x", w, p.A, p.Len, got)
					}
				}
			}
		}
	}
}

func TestLastEdges(t *testing.T) { // P2.3
	for _, c := range []struct {
		w    int
		p    prefix.Prefix
		want addr.Addr
	}{
		{v4, prefix.Prefix{}, addr.Addr{left, 0}},
		{v6, prefix.Prefix{}, addr.Addr{ones, ones}},
		{v4, four(0x0a000000, 8), addr.Addr{0x0affffff00000000, 0}},
		{v6, four(0x0a000000, 8), addr.Addr{0x0affffffffffffff, ones}},
		{v4, four(0x0a010203, 32), addr.Addr{0x0a01020300000000, 0}},
		{v6, prefix.Prefix{A: addr.Addr{5, 0}, Len: 64}, addr.Addr{5, ones}},
		{v4, four(0x0a010203, 33), addr.Addr{}},
		{v4, four(0x0a010203, 31), addr.Addr{}},
		{v4, prefix.Prefix{Len: -1}, addr.Addr{}},
		{v6, prefix.Prefix{Len: 129}, addr.Addr{}},
	} {
		if got := prefix.Last(c.w, c.p); got != c.want {
			t.Errorf("Last(%d, %x/%d): %x", c.w, c.p.A, c.p.Len, got)
		}
	}
}

func TestLastNoFamily(t *testing.T) { // P2.3
	for _, w := range noFamilies {
		for _, p := range all() {
			if got := prefix.Last(w, p); got != (addr.Addr{}) {
				t.Errorf("Last(%d, %x/%d): %x", w, p.A, p.Len, got)
			}
		}
	}
}

func TestParent(t *testing.T) { // P2.3
	for _, a := range addresses() {
		for n := 1; n <= v6; n++ {
			got, ok := prefix.Parent(prefix.Prefix{A: a, Len: n})
			if !ok || got.Len != n-1 || digits(got.A) != filled(first(a, n-1), "0") {
				t.Errorf("Parent(%x/%d): %x/%d, %t", a, n, got.A, got.Len, ok)
			}
		}
	}
}

func TestSibling(t *testing.T) { // P2.3
	other := map[byte]string{'0': "1", '1': "0"}
	for _, a := range addresses() {
		for n := 1; n <= v6; n++ {
			want := filled(first(a, n-1)+other[digits(a)[n-1]], "0")
			got, ok := prefix.Sibling(prefix.Prefix{A: a, Len: n})
			if !ok || got.Len != n || digits(got.A) != want {
				t.Errorf("Sibling(%x/%d): %x/%d, %t", a, n, got.A, got.Len, ok)
			}
			if back, ok := prefix.Sibling(got); !ok || back != prefix.Make(a, n) {
				t.Errorf("Sibling of Sibling(%x/%d): %x/%d, %t", a, n, back.A, back.Len, ok)
			}
		}
	}
}

// TestNoLastBit has lengths of prefixes without a bit that could be taken away
// or turned.
func TestNoLastBit(t *testing.T) { // P2.3
	for _, a := range addresses() {
		for _, n := range append(append([]int{0}, below...), beyond...) {
			p := prefix.Prefix{A: a, Len: n}
			if got, ok := prefix.Parent(p); ok || got != (prefix.Prefix{}) {
				t.Errorf("Parent(%x/%d): %x/%d, %t", a, n, got.A, got.Len, ok)
			}
			if got, ok := prefix.Sibling(p); ok || got != (prefix.Prefix{}) {
				t.Errorf("Sibling(%x/%d): %x/%d, %t", a, n, got.A, got.Len, ok)
			}
		}
	}
}

// longest looks for the join from the longest prefix of p on.
func longest(p, q prefix.Prefix) prefix.Prefix {
	n := p.Len
	for !covers(prefix.Make(p.A, n), p) || !covers(prefix.Make(p.A, n), q) {
		n--
	}
	return prefix.Make(p.A, n)
}

func TestJoin(t *testing.T) { // P2.3
	var l []prefix.Prefix
	for _, p := range all() {
		if valid(v6, p) && !slices.Contains(l, p) {
			l = append(l, p)
		}
	}
	for _, p := range l {
		for _, q := range l {
			if got := prefix.Join(p, q); got != longest(p, q) {
				t.Fatalf("Join(%x/%d, %x/%d): %x/%d", p.A, p.Len, q.A, q.Len, got.A, got.Len)
			}
		}
	}
}

func TestJoinEdges(t *testing.T) { // P2.3
	for _, c := range []struct{ p, q, want prefix.Prefix }{
		{four(0x0a000000, 8), four(0x0a010000, 16), four(0x0a000000, 8)},
		{four(0x0a000000, 9), four(0x0a800000, 9), four(0x0a000000, 8)},
		{four(0x0a000000, 8), four(0x0a000000, 16), four(0x0a000000, 8)}, // one address, two lengths
		{four(0x0a000000, 8), four(0x0a000000, 8), four(0x0a000000, 8)},
		{four(0, 1), four(0x80000000, 1), prefix.Prefix{}},
		{prefix.Prefix{}, four(0x0a000000, 8), prefix.Prefix{}},
		{prefix.Prefix{A: addr.Addr{5, 6}, Len: 128}, prefix.Prefix{A: addr.Addr{5, 7}, Len: 128}, prefix.Prefix{A: addr.Addr{5, 6}, Len: 127}},
		{prefix.Prefix{A: addr.Addr{5, 7}, Len: 128}, prefix.Prefix{A: addr.Addr{5, 7}, Len: 128}, prefix.Prefix{A: addr.Addr{5, 7}, Len: 128}},
	} {
		if got, back := prefix.Join(c.p, c.q), prefix.Join(c.q, c.p); got != c.want || back != c.want {
			t.Errorf("Join(%x/%d, %x/%d): %x/%d, and %x/%d the other way", c.p.A, c.p.Len, c.q.A, c.q.Len, got.A, got.Len, back.A, back.Len)
		}
	}
}

// TestJoinEnds has prefixes that are not valid: nothing is promised but that
// the call ends without a panic.
func TestJoinEnds(t *testing.T) { // P2.3
	l := all()
	for _, p := range l {
		for _, q := range l {
			prefix.Join(p, q)
		}
	}
}
