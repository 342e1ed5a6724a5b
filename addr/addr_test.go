package addr_test

import (
	"fmt"
	"math"
	"math/big"
	"strings"
	"testing"

	"pigeonhole/addr"
)

const (
	bits = 128
	top  = ^uint64(0)
)

// noBits are numbers of bits that there are not. Among them are those that a
// narrower integer, or a remainder, would take for a bit.
var noBits = []int{
	-1, -2, -63, -64, -65, -127, -128, -129, 128, 129, 191, 192, 255, 256, 1000,
	math.MinInt8, math.MaxUint8 + 1, math.MaxUint8 + 6, math.MaxUint16 + 6,
	1 << 32, 1<<32 + 5, -1 << 32, -1<<32 + 5, math.MaxInt32, math.MinInt32,
	math.MaxInt, math.MaxInt - 1, math.MinInt, math.MinInt + 1,
}

// samples are the edges of both words, and numbers without a pattern.
func samples() []addr.Addr {
	l := []addr.Addr{
		{}, {0, 1}, {0, 1 << 63}, {1, 0}, {1 << 63, 0}, {top, 0}, {0, top},
		{top, top}, {top, top - 1}, {top - 1, top}, {top >> 1, top}, {5, top},
		{0x0a00000000000000, 1}, {0x0a01000000000000, 0},
		{0xaaaaaaaaaaaaaaaa, 0x5555555555555555}, {0x123456789abcdef0, 0x0fedcba987654321},
	}
	x := uint64(1)
	next := func() uint64 {
		x = x*6364136223846793005 + 1442695040888963407
		return x
	}
	for range 16 {
		l = append(l, addr.Addr{next(), next()})
	}
	return l
}

// digits is an address as 128 binary digits, bit 0 first: what it is held
// against is worked out from this text and not from words.
func digits(a addr.Addr) string { return fmt.Sprintf("%064b%064b", a[0], a[1]) }

// number is an address as a number.
func number(a addr.Addr) *big.Int {
	n, _ := new(big.Int).SetString(digits(a), 2)
	return n
}

func replaced(s string, k int, b bool) string {
	if b {
		return s[:k] + "1" + s[k+1:]
	}
	return s[:k] + "0" + s[k+1:]
}

func TestBit(t *testing.T) { // P1.1
	for _, a := range samples() {
		s := digits(a)
		for k := range bits {
			if got := addr.Bit(a, k); got != (s[k] == '1') {
				t.Errorf("Bit(%x, %d): %t", a, k, got)
			}
		}
	}
}

func TestBitCountsFromTheLeft(t *testing.T) { // P1.1
	for k, a := range map[int]addr.Addr{
		0: {1 << 63, 0}, 1: {1 << 62, 0}, 63: {1, 0}, 64: {0, 1 << 63}, 65: {0, 1 << 62}, 127: {0, 1},
	} {
		for other := range bits {
			if got := addr.Bit(a, other); got != (other == k) {
				t.Errorf("Bit(%x, %d): %t", a, other, got)
			}
		}
		if got := addr.With(addr.Addr{}, k, true); got != a {
			t.Errorf("With of bit %d: %x", k, got)
		}
	}
}

func TestBitThatThereIsNot(t *testing.T) { // P1.1
	for _, k := range noBits {
		for _, a := range samples() {
			if addr.Bit(a, k) {
				t.Errorf("Bit(%x, %d) is set", a, k)
			}
			for _, b := range []bool{false, true} {
				if got := addr.With(a, k, b); got != a {
					t.Errorf("With(%x, %d, %t): %x", a, k, b, got)
				}
			}
		}
	}
}

func TestWith(t *testing.T) { // P1.1
	for _, a := range samples() {
		s := digits(a)
		for k := range bits {
			for _, b := range []bool{false, true} {
				if got := digits(addr.With(a, k, b)); got != replaced(s, k, b) {
					t.Errorf("With(%x, %d, %t): %s", a, k, b, got)
				}
			}
		}
		if digits(a) != s {
			t.Errorf("With changed %s to %x", s, a)
		}
	}
}

func TestMask(t *testing.T) { // P1.1
	for n := range bits + 1 {
		want := strings.Repeat("1", n) + strings.Repeat("0", bits-n)
		if got := digits(addr.Mask(n)); got != want {
			t.Errorf("Mask(%d): %s", n, got)
		}
	}
	for n, want := range map[int]addr.Addr{
		0: {}, 1: {1 << 63, 0}, 4: {0xf000000000000000, 0}, 63: {top - 1, 0}, 64: {top, 0},
		65: {top, 1 << 63}, 127: {top, top - 1}, 128: {top, top},
	} {
		if got := addr.Mask(n); got != want {
			t.Errorf("Mask(%d): %x", n, got)
		}
	}
}

func TestMaskAndCutBeyond(t *testing.T) { // P1.1
	for _, n := range noBits {
		var want addr.Addr
		if n > 0 {
			want = addr.Addr{top, top}
		}
		if got := addr.Mask(n); got != want {
			t.Errorf("Mask(%d): %x", n, got)
		}
		for _, a := range samples() {
			want := addr.Addr{}
			if n > 0 {
				want = a
			}
			if got := addr.Cut(a, n); got != want {
				t.Errorf("Cut(%x, %d): %x", a, n, got)
			}
		}
	}
}

func TestCut(t *testing.T) { // P1.1
	for _, a := range samples() {
		s := digits(a)
		for n := range bits + 1 {
			want := s[:n] + strings.Repeat("0", bits-n)
			if got := digits(addr.Cut(a, n)); got != want {
				t.Errorf("Cut(%x, %d): %s", a, n, got)
			}
		}
	}
}

// bitwise is what a table of truth makes of two addresses, digit by digit.
func bitwise(a, b addr.Addr, truth func(x, y bool) bool) string {
	s, r := digits(a), digits(b)
	var out strings.Builder
	for k := range bits {
		if truth(s[k] == '1', r[k] == '1') {
			out.WriteByte('1')
		} else {
			out.WriteByte('0')
		}
	}
	return out.String()
}

func TestBitwise(t *testing.T) { // P1.1
	and := func(x, y bool) bool { return x && y }
	or := func(x, y bool) bool { return x || y }
	xor := func(x, y bool) bool { return x != y }
	not := func(x, _ bool) bool { return !x }
	for _, a := range samples() {
		if got := digits(addr.Not(a)); got != bitwise(a, a, not) {
			t.Errorf("Not(%x): %s", a, got)
		}
		for _, b := range samples() {
			if got := digits(addr.And(a, b)); got != bitwise(a, b, and) {
				t.Errorf("And(%x, %x): %s", a, b, got)
			}
			if got := digits(addr.Or(a, b)); got != bitwise(a, b, or) {
				t.Errorf("Or(%x, %x): %s", a, b, got)
			}
			if got := digits(addr.Xor(a, b)); got != bitwise(a, b, xor) {
				t.Errorf("Xor(%x, %x): %s", a, b, got)
			}
		}
	}
}

func TestCommon(t *testing.T) { // P1.2
	for _, a := range samples() {
		if got := addr.Common(a, a); got != bits {
			t.Errorf("Common(%x, %x): %d", a, a, got)
		}
		for _, b := range samples() {
			n := 0
			for s, r := digits(a), digits(b); n < bits && s[n] == r[n]; {
				n++
			}
			if got := addr.Common(a, b); got != n {
				t.Errorf("Common(%x, %x): %d, not %d", a, b, got, n)
			}
		}
	}
}

// TestCommonEndsAtEachBit has the bits behind the first one that differs be
// the same, and different: they must not count.
func TestCommonEndsAtEachBit(t *testing.T) { // P1.2
	for _, a := range samples() {
		for k := range bits {
			b := addr.With(a, k, !addr.Bit(a, k))
			c := addr.Xor(a, addr.Not(addr.Mask(k)))
			if addr.Common(a, b) != k || addr.Common(b, a) != k || addr.Common(a, c) != k {
				t.Errorf("Common of %x, turned at %d: %d, %d, %d", a, k, addr.Common(a, b), addr.Common(b, a), addr.Common(a, c))
			}
		}
	}
}

func TestOnes(t *testing.T) { // P1.2
	for _, a := range samples() {
		if got, want := addr.Ones(a), strings.Count(digits(a), "1"); got != want {
			t.Errorf("Ones(%x): %d, not %d", a, got, want)
		}
	}
	for n := range bits + 1 {
		if got := addr.Ones(addr.Mask(n)); got != n {
			t.Errorf("Ones(Mask(%d)): %d", n, got)
		}
	}
}

func TestCompare(t *testing.T) { // P1.2
	for _, a := range samples() {
		for _, b := range samples() {
			if got, want := addr.Compare(a, b), number(a).Cmp(number(b)); got != want {
				t.Errorf("Compare(%x, %x): %d, not %d", a, b, got, want)
			}
		}
	}
	for _, c := range []struct {
		a, b addr.Addr
		want int
	}{
		{addr.Addr{}, addr.Addr{}, 0},
		{addr.Addr{top, top}, addr.Addr{top, top}, 0},
		{addr.Addr{0, top}, addr.Addr{1, 0}, -1},
		{addr.Addr{1 << 63, 0}, addr.Addr{top >> 1, top}, 1}, // no signs
		{addr.Addr{7, 1 << 63}, addr.Addr{7, 1}, 1},
		{addr.Addr{7, 1}, addr.Addr{7, 2}, -1},
	} {
		if got := addr.Compare(c.a, c.b); got != c.want {
			t.Errorf("Compare(%x, %x): %d", c.a, c.b, got)
		}
	}
}

func TestNext(t *testing.T) { // P1.2
	size := new(big.Int).Lsh(big.NewInt(1), bits)
	for _, a := range samples() {
		want := number(a)
		want.Add(want, big.NewInt(1)).Mod(want, size)
		if got := addr.Next(a); number(got).Cmp(want) != 0 {
			t.Errorf("Next(%x): %x", a, got)
		}
	}
	for _, c := range [][2]addr.Addr{
		{{}, {0, 1}},
		{{0, top}, {1, 0}},
		{{top, top - 1}, {top, top}},
		{{top, top}, {}},
		{{top, 0}, {top, 1}},
	} {
		if got := addr.Next(c[0]); got != c[1] {
			t.Errorf("Next(%x): %x", c[0], got)
		}
	}
}
