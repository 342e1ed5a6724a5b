package written_test

import (
	"fmt"
	"math"
	"math/big"
	"regexp"
	"slices"
	"strconv"
	"strings"
	"testing"

	"pigeonhole/addr"
	"pigeonhole/api"
	"pigeonhole/prefix"
	"pigeonhole/written"
)

const (
	v4   = 32
	v6   = 128
	ones = ^uint64(0)
	left = ones ^ math.MaxUint32 // the half of a word that V4 uses
	long = 1 << 20               // bytes of a very long text
)

var families = []int{v4, v6}

// noFamilies are widths that are no family. Among them are those that a
// narrower integer, or one without a sign, would take for one.
var noFamilies = []int{
	0, 1, 4, 6, 8, 31, 33, 64, 127, 129, 256, -1, -32, -128, 256 + 32, 256 + 128, 1<<32 + 32, 1<<32 + 128,
	math.MaxInt32, math.MinInt32, math.MaxInt, math.MinInt,
}

// The texts that the chapter defines, as patterns: what the package takes is
// held against these.
const (
	byteForm   = `(?:25[0-5]|2[0-4][0-9]|1[0-9][0-9]|[1-9][0-9]|[0-9])`
	groupForm  = `[0-9a-f]{4}`
	fourForm   = byteForm + `(?:\.` + byteForm + `){3}`
	sixForm    = groupForm + `(?::` + groupForm + `){7}`
	lengthForm = `/(12[0-8]|1[01][0-9]|[1-9][0-9]|[0-9])`
)

var (
	addrForms   = map[int]*regexp.Regexp{v4: whole(fourForm), v6: whole(sixForm)}
	prefixForms = map[int]*regexp.Regexp{v4: whole(fourForm + lengthForm), v6: whole(sixForm + lengthForm)}
	numberForm  = whole(`(?:0|[1-9][0-9]{0,8})`)
)

func whole(form string) *regexp.Regexp { return regexp.MustCompile(`\A` + form + `\z`) }

// short keeps a message readable when a text is very long.
func short(s string) string {
	if len(s) > 80 {
		return fmt.Sprintf("%q.. of %d bytes", s[:80], len(s))
	}
	return strconv.Quote(s)
}

// addrText is what an address is written as, made by fmt.
func addrText(w int, a addr.Addr) string {
	if w == v4 {
		return fmt.Sprintf("%d.%d.%d.%d", byte(a[0]>>56), byte(a[0]>>48), byte(a[0]>>40), byte(a[0]>>32))
	}
	s := fmt.Sprintf("%016x%016x", a[0], a[1])
	var groups []string
	for k := 0; k < len(s); k += 4 {
		groups = append(groups, s[k:k+4])
	}
	return strings.Join(groups, ":")
}

func prefixText(w int, p prefix.Prefix) string { return fmt.Sprintf("%s/%d", addrText(w, p.A), p.Len) }

// valueOf is the number of some digits, or 0 and false if they are no Number.
func valueOf(s string, most int) (int, bool) {
	if !numberForm.MatchString(s) {
		return 0, false
	}
	n, _ := new(big.Int).SetString(s, 10)
	if n.Cmp(big.NewInt(int64(most))) > 0 {
		return 0, false
	}
	return int(n.Int64()), true
}

// addresses are edges of both words, of both families and of the parts of
// their texts, and some without a pattern.
func addresses() []addr.Addr {
	l := []addr.Addr{
		{}, {0, 1}, {0, 1 << 63}, {1, 0}, {1 << 63, 0}, {1 << 32, 0}, {1 << 31, 0}, {left, 0}, {ones, 0},
		{0, ones}, {ones, ones}, {ones, ones - 1}, {0x0a00000000000000, 0}, {0x0a01000000000000, 0},
		{0x0102030400000000, 0}, {0x63640a0900000000, 0}, {0xc8c7fafb00000000, 0}, {0x0123456789abcdef, 0xfedcba9876543210},
		{0x000f00f00f00f000, 0x0abc0ab00a000001}, {0x1000010000100001, 0x1111222233334444},
	}
	for k := range v6 {
		l = append(l, addr.With(addr.Addr{}, k, true), addr.With(addr.Addr{ones, ones}, k, false))
	}
	x := uint64(11)
	next := func() uint64 {
		x = x*6364136223846793005 + 1442695040888963407
		return x
	}
	for range 64 {
		a := addr.Addr{next(), next()}
		l = append(l, a, addr.Cut(a, v4))
	}
	return l
}

// of is those addresses that belong to a family.
func of(w int) []addr.Addr {
	return slices.DeleteFunc(addresses(), func(a addr.Addr) bool { return w == v4 && (a[0]&math.MaxUint32 != 0 || a[1] != 0) })
}

// prefixes are valid ones of a family, of every length.
func prefixes(w int) []prefix.Prefix {
	var l []prefix.Prefix
	for i, a := range of(w) {
		for n := range w + 1 {
			if i%4 == 0 || n%8 == 0 || n%8 == 7 {
				l = append(l, prefix.Prefix{A: addr.Cut(a, n), Len: n})
			}
		}
	}
	return l
}

// signs are pieces that a reader of numbers may take without being asked to,
// and bytes that stand for nothing.
var signs = []string{
	"", "+", "-", " ", "\t", "\n", "\r", "\v", "\f", "\x00", "_", ".", ",", ":", "::", "/", "//", "0", "00", "1", "9", "a", "f", "g",
	"A", "F", "G", "x", "X", "0x", "0X", "0b", "0o", "e", "E", "1e1", "%", "[", "]", "*", "\\", "'", "\"", "\x7f", "\x80", "\xb2", "\xff",
	"\u00a0", "\u0660", "\u0661", "\u06f1", "\u0967", "\u2028", "\u2212", "\u3000", "\uff10", "\uff11", "\uff21", "\ufeff", "\U0001d7ce",
}

// neighbors are texts that differ from one at a single place: another byte, one
// more, one less, a piece put in, or an end cut off.
func neighbors(s string) []string {
	var l []string
	for k := range len(s) + 1 {
		l = append(l, s[:k], s[k:])
		for _, piece := range signs {
			l = append(l, s[:k]+piece+s[k:])
		}
		if k == len(s) {
			break
		}
		l = append(l, s[:k]+s[k+1:], s[:k]+s[k:k+1]+s[k:])
		for b := range 256 {
			l = append(l, s[:k]+string([]byte{byte(b)})+s[k+1:])
		}
	}
	return append(l, strings.ToUpper(s), s+s, s+"."+s, s+":"+s, s+"/"+s)
}

// veryLong are texts that begin like one of a family, are like one somewhere,
// or are like none, and go on for long.
func veryLong() []string {
	var l []string
	for _, piece := range []string{"0", "1", "9", "f", ".", ":", "/", "0.", "1:", "0000:", "0.0.0.0/", "/0", " ", "-", "\x00", "\xff", "\n", "é"} {
		many := strings.Repeat(piece, long/len(piece))
		l = append(l, many)
		for _, ok := range []string{"0", "10.0.0.0", "10.0.0.0/8", addrText(v6, addr.Addr{ones, 1}), addrText(v6, addr.Addr{}) + "/8"} {
			l = append(l, ok+many, many+ok, ok+"/"+many)
		}
	}
	return append(l, "0.0.0."+strings.Repeat("0", long), "0.0.0.0/"+strings.Repeat("0", long)+"8")
}

// checkNumber holds Number against the pattern.
func checkNumber(t *testing.T, s string, most int) {
	t.Helper()
	want, is := valueOf(s, most)
	if got, ok := written.Number(s, most); got != want || ok != is {
		t.Errorf("Number(%s, %d): %d, %t; not %d, %t", short(s), most, got, ok, want, is)
	}
}

// checkAddr holds ParseAddr against the pattern, and what it returns against
// the text.
func checkAddr(t *testing.T, w int, s string) {
	t.Helper()
	a, errno := written.ParseAddr(w, s)
	if !addrForms[w].MatchString(s) {
		if errno != api.ErrForm || a != (addr.Addr{}) {
			t.Errorf("ParseAddr(%d, %s): %x, %d", w, short(s), a, errno)
		}
		return
	}
	if errno != api.OK || addrText(w, a) != s || !prefix.Of(w, a) {
		t.Errorf("ParseAddr(%d, %s): %x, %d", w, short(s), a, errno)
	}
}

// checkPrefix does the same for ParsePrefix, whose texts of the right form may
// not be valid.
func checkPrefix(t *testing.T, w int, s string) {
	t.Helper()
	p, errno := written.ParsePrefix(w, s)
	want := api.ErrForm
	if m := prefixForms[w].FindStringSubmatch(s); m != nil {
		want = api.OK
		a, _ := written.ParseAddr(w, s[:strings.Index(s, "/")])
		n, _ := strconv.Atoi(m[1])
		if !prefix.Right(w, prefix.Prefix{A: a, Len: n}) {
			want = api.ErrBad
		}
	}
	if errno != want {
		t.Errorf("ParsePrefix(%d, %s): %x/%d, %d; not %d", w, short(s), p.A, p.Len, errno, want)
	} else if errno != api.OK && p != (prefix.Prefix{}) {
		t.Errorf("ParsePrefix(%d, %s): %x/%d beside %d", w, short(s), p.A, p.Len, errno)
	} else if errno == api.OK && (prefixText(w, p) != s || !prefix.Right(w, p)) {
		t.Errorf("ParsePrefix(%d, %s): %x/%d", w, short(s), p.A, p.Len)
	}
}

func TestNumber(t *testing.T) { // P3.1
	for n := range 20000 {
		s := strconv.Itoa(n)
		for _, most := range []int{n - 1, n, n + 1, 0, -1, 255, 1000, math.MaxInt, math.MinInt} {
			checkNumber(t, s, most)
		}
		checkNumber(t, "0"+s, math.MaxInt)
	}
	for ten := 1; ten <= 1_000_000_000; ten *= 10 {
		for _, n := range []int{ten - 1, ten, ten + 1, 2*ten - 1, 7 * ten, 9*ten + ten/3} {
			s := strconv.Itoa(n)
			for _, most := range []int{n - 1, n, n + 1, 0, 255, math.MaxInt32, math.MaxInt} {
				checkNumber(t, s, most)
			}
		}
	}
}

func TestNumberEdges(t *testing.T) { // P3.1
	for _, c := range []struct {
		s    string
		most int
		want int
		is   bool
	}{
		{"0", 0, 0, true},
		{"0", 255, 0, true},
		{"0", -1, 0, false},
		{"0", math.MinInt, 0, false},
		{"", 0, 0, false},
		{"", math.MaxInt, 0, false},
		{"00", 255, 0, false},
		{"01", 255, 0, false},
		{"007", 255, 0, false},
		{"10", 10, 10, true},
		{"10", 9, 0, false},
		{"100", 100, 100, true},
		{"255", 255, 255, true},
		{"256", 255, 0, false},
		{"123456789", 123456789, 123456789, true},
		{"123456789", 123456788, 0, false},
		{"100000000", math.MaxInt, 100000000, true},
		{"999999999", math.MaxInt, 999999999, true},
		{"999999999", 999999998, 0, false},
		{"012345678", math.MaxInt, 0, false},
		{"000000000", math.MaxInt, 0, false},
		{"000000001", math.MaxInt, 0, false},
		{"0000000000", math.MaxInt, 0, false},
		{"0000000001", math.MaxInt, 0, false},
		{"1000000000", math.MaxInt, 0, false},
		{"1234567890", math.MaxInt, 0, false},
		{"4294967296", math.MaxInt, 0, false},           // 2^32
		{"18446744073709551616", math.MaxInt, 0, false}, // 2^64
		{"18446744073709551623", math.MaxInt, 0, false},
		{"+1", 255, 0, false},
		{"-1", 255, 0, false},
		{"-0", 255, 0, false},
		{"+0", 255, 0, false},
		{" 1", 255, 0, false},
		{"1 ", 255, 0, false},
		{"1 2", 255, 0, false},
		{"1_0", 255, 0, false},
		{"1e2", 255, 0, false},
		{"1.0", 255, 0, false},
		{"0x1", 255, 0, false},
		{"a", 255, 0, false},
		{"F", 255, 0, false},
		{"\n", 255, 0, false},
		{"1\n", 255, 0, false},
		{"1\x00", 255, 0, false},
		{"\u0661", 255, 0, false},
		{"\uff11", 255, 0, false},
	} {
		if got, is := written.Number(c.s, c.most); got != c.want || is != c.is {
			t.Errorf("Number(%q, %d): %d, %t", c.s, c.most, got, is)
		}
	}
}

func TestNumberNeighbors(t *testing.T) { // P3.1
	for _, ok := range []string{"0", "7", "10", "128", "255", "90210", "123456789", "999999999"} {
		for _, s := range neighbors(ok) {
			for _, most := range []int{-1, 0, 128, 255, math.MaxInt} {
				checkNumber(t, s, most)
			}
		}
	}
}

func TestAddr(t *testing.T) { // P3.1
	for _, w := range families {
		for _, a := range of(w) {
			if got, want := written.Addr(w, a), addrText(w, a); got != want {
				t.Errorf("Addr(%d, %x): %q, not %q", w, a, got, want)
			}
		}
	}
	for _, c := range []struct {
		w    int
		a    addr.Addr
		want string
	}{
		{v4, addr.Addr{}, "0.0.0.0"},
		{v4, addr.Addr{0x0a01000000000000, 0}, "10.1.0.0"},
		{v4, addr.Addr{0x0109636400000000, 0}, "1.9.99.100"},
		{v4, addr.Addr{left, 0}, "255.255.255.255"},
		{v6, addr.Addr{}, "0000:0000:0000:0000:0000:0000:0000:0000"},
		{v6, addr.Addr{0x0a01000000000000, 0}, "0a01:0000:0000:0000:0000:0000:0000:0000"},
		{v6, addr.Addr{0x0123456789abcdef, 0x00000f0000f0000f}, "0123:4567:89ab:cdef:0000:0f00:00f0:000f"},
		{v6, addr.Addr{ones, ones}, "ffff:ffff:ffff:ffff:ffff:ffff:ffff:ffff"},
	} {
		if got := written.Addr(c.w, c.a); got != c.want {
			t.Errorf("Addr(%d, %x): %q", c.w, c.a, got)
		}
		if got, errno := written.ParseAddr(c.w, c.want); got != c.a || errno != api.OK {
			t.Errorf("ParseAddr(%d, %q): %x, %d", c.w, c.want, got, errno)
		}
	}
}

func TestAddrEachPart(t *testing.T) { // P3.1
	for v := range 1 << 8 {
		for k := range 4 {
			parts := []string{"0", "255", "10", "9"}
			parts[k] = strconv.Itoa(v)
			checkAddr(t, v4, strings.Join(parts, "."))
		}
	}
	for v := range 1 << 16 {
		parts := strings.Split(addrText(v6, addr.Addr{0x00010a0bffff0000, 0x1234567800000000}), ":")
		parts[v%8] = fmt.Sprintf("%04x", v)
		checkAddr(t, v6, strings.Join(parts, ":"))
	}
}

// TestAddrNotOfFamily sets each bit that an address of V4 does not have.
func TestAddrNotOfFamily(t *testing.T) { // P3.1
	for k := v4; k < v6; k++ {
		for _, a := range []addr.Addr{{}, {0x0a01000000000000, 0}, {left, 0}} {
			a = addr.With(a, k, true)
			if got := written.Addr(v4, a); got != "" {
				t.Errorf("Addr(32, %x): %q", a, got)
			}
		}
	}
}

func TestNoFamily(t *testing.T) { // P3.1, P3.2
	texts := []string{"", "/", "0.0.0.0", "10.1.0.0/16", "0.0.0.0/33", "0.0.0.0/0/0", "x", addrText(v6, addr.Addr{}), addrText(v6, addr.Addr{}) + "/0"}
	for _, w := range noFamilies {
		for _, a := range []addr.Addr{{}, {0x0a01000000000000, 0}, {ones, ones}} {
			if got := written.Addr(w, a); got != "" {
				t.Errorf("Addr(%d, %x): %q", w, a, got)
			}
			for _, n := range []int{0, 8, 32, 128, w} {
				p := prefix.Prefix{A: addr.Cut(a, n), Len: n}
				if got := written.Prefix(w, p); got != "" {
					t.Errorf("Prefix(%d, %x/%d): %q", w, p.A, p.Len, got)
				}
			}
		}
		for _, s := range append(texts, strings.Repeat("0", long)) {
			if a, errno := written.ParseAddr(w, s); errno != api.ErrBad || a != (addr.Addr{}) {
				t.Errorf("ParseAddr(%d, %s): %x, %d", w, short(s), a, errno)
			}
			if p, errno := written.ParsePrefix(w, s); errno != api.ErrBad || p != (prefix.Prefix{}) {
				t.Errorf("ParsePrefix(%d, %s): %x/%d, %d", w, short(s), p.A, p.Len, errno)
			}
		}
	}
}

// noAddr are texts that are no address of a family.
var noAddr = map[int][]string{
	v4: {
		"", "0", "10", "10.1", "10.1.0", "10.1.0.", ".10.1.0", "10.1.0.0.", ".10.1.0.0", "10.1.0.0.0", "10..1.0", "10.1..0.0", "...", ". . .",
		"256.0.0.0", "0.256.0.0", "0.0.256.0", "0.0.0.256", "999.0.0.0", "1000.0.0.0", "0.0.0.4294967296", "0.0.0.1234567890",
		"00.0.0.0", "010.1.0.0", "10.01.0.0", "10.1.00.0", "10.1.0.00", "10.1.0.007", "000.000.000.000", "0.0.0.0000000000",
		"+10.1.0.0", "-10.1.0.0", "10.-1.0.0", "10.1.0.+0", "10.1.0.-0", " 10.1.0.0", "10.1.0.0 ", "10. 1.0.0", "10.1.0.0\n", "\t10.1.0.0",
		"a.1.0.0", "0xa.1.0.0", "10.1.0.0x0", "10,1,0,0", "10:1:0:0", "10.1.0:0", "10.1.0.0/16", "10.1.0.0/", "1e1.0.0.0", "1_0.1.0.0", "10.1.0.\u0660",
		"0a01:0000:0000:0000:0000:0000:0000:0000", "::ffff:10.1.0.0", "10.1.0.0\x00", "\x0010.1.0.0",
	},
	v6: {
		"", "0", ":", "::", ":::::::", "::1", "0:0:0:0:0:0:0:0", "0a01::", "0a01::0000", "0.0.0.0", "10.1.0.0",
		"0a01:0000:0000:0000:0000:0000:0000", "0a01:0000:0000:0000:0000:0000:0000:", ":0a01:0000:0000:0000:0000:0000:0000",
		"0a01:0000:0000:0000:0000:0000:0000:0000:", ":0a01:0000:0000:0000:0000:0000:0000:0000", "0a01:0000:0000:0000:0000:0000:0000:0000:0000",
		"a01:0000:0000:0000:0000:0000:0000:0000", "00a01:0000:0000:0000:0000:0000:0000:0000", "0a01:000:0000:0000:0000:0000:0000:0000",
		"0a01:0000:0000:0000:0000:0000:0000:000", "0a01:0000:0000:0000:0000:0000:0000:00000", "0a01:0000:0000:00000:000:0000:0000:0000",
		"0A01:0000:0000:0000:0000:0000:0000:0000", "0a01:0000:0000:0000:0000:0000:0000:000F", "FFFF:FFFF:FFFF:FFFF:FFFF:FFFF:FFFF:FFFF",
		"0g01:0000:0000:0000:0000:0000:0000:0000", "0x01:0000:0000:0000:0000:0000:0000:0000", "0a01:0000:0000:0000:0000:0000:0000:0x00",
		"+a01:0000:0000:0000:0000:0000:0000:0000", "-a01:0000:0000:0000:0000:0000:0000:0000", "0a01:+000:0000:0000:0000:0000:0000:0000", "0a01:-000:0000:0000:0000:0000:0000:0000",
		" a01:0000:0000:0000:0000:0000:0000:0000", " 0a01:0000:0000:0000:0000:0000:0000:0000", "0a01:0000:0000:0000:0000:0000:0000:0000 ", "0a01:0000:0000:0000:0000:0000:0000:000 ",
		"0a01:0000:0000:0000:0000:0000:0000:0000\n", "0a01:0_00:0000:0000:0000:0000:0000:0000", "0a01.0000.0000.0000.0000.0000.0000.0000", "0a010000000000000000000000000000",
		"0000:0000:0000:0000:0000:ffff:10.1.0.0", "[0a01:0000:0000:0000:0000:0000:0000:0000]", "0a01:0000:0000:0000:0000:0000:0000:0000/16", "0a01:0000:0000:0000:0000:0000:0000:0000%1",
	},
}

func TestParseAddrForm(t *testing.T) { // P3.1
	for w, l := range noAddr {
		for _, s := range l {
			if a, errno := written.ParseAddr(w, s); errno != api.ErrForm || a != (addr.Addr{}) {
				t.Errorf("ParseAddr(%d, %q): %x, %d", w, s, a, errno)
			}
		}
	}
}

func TestPrefix(t *testing.T) { // P3.2
	for _, w := range families {
		for _, p := range prefixes(w) {
			if got, want := written.Prefix(w, p), prefixText(w, p); got != want {
				t.Errorf("Prefix(%d, %x/%d): %q, not %q", w, p.A, p.Len, got, want)
			}
		}
	}
	for _, c := range []struct {
		w    int
		p    prefix.Prefix
		want string
	}{
		{v4, prefix.Prefix{}, "0.0.0.0/0"},
		{v4, prefix.Prefix{A: addr.Addr{0x0a01000000000000, 0}, Len: 16}, "10.1.0.0/16"},
		{v4, prefix.Prefix{A: addr.Addr{left, 0}, Len: 32}, "255.255.255.255/32"},
		{v6, prefix.Prefix{}, "0000:0000:0000:0000:0000:0000:0000:0000/0"},
		{v6, prefix.Prefix{A: addr.Addr{0x0a01000000000000, 0}, Len: 16}, "0a01:0000:0000:0000:0000:0000:0000:0000/16"},
		{v6, prefix.Prefix{A: addr.Addr{ones, ones}, Len: 128}, "ffff:ffff:ffff:ffff:ffff:ffff:ffff:ffff/128"},
	} {
		if got := written.Prefix(c.w, c.p); got != c.want {
			t.Errorf("Prefix(%d, %x/%d): %q", c.w, c.p.A, c.p.Len, got)
		}
		if got, errno := written.ParsePrefix(c.w, c.want); got != c.p || errno != api.OK {
			t.Errorf("ParsePrefix(%d, %q): %x/%d, %d", c.w, c.want, got.A, got.Len, errno)
		}
	}
}

// TestPrefixNotValid has lengths that there are not, bits behind the length,
// and addresses of the other family.
func TestPrefixNotValid(t *testing.T) { // P3.2
	for _, w := range families {
		for _, n := range []int{w + 1, 129, 136, 1000, 256 + 8, 1<<32 + 8, math.MaxInt, -1, -8, -w, math.MinInt} {
			for _, a := range []addr.Addr{{}, {0x0a01000000000000, 0}, {left, 0}} {
				for _, p := range []prefix.Prefix{{A: a, Len: n}, {A: addr.Cut(a, n), Len: n}} {
					if got := written.Prefix(w, p); got != "" {
						t.Errorf("Prefix(%d, %x/%d): %q", w, p.A, p.Len, got)
					}
				}
			}
		}
		for n := range w + 1 {
			for k := range v6 {
				p := prefix.Prefix{A: addr.With(addr.Addr{}, k, true), Len: n}
				want := ""
				if k < n {
					want = prefixText(w, p)
				}
				if got := written.Prefix(w, p); got != want {
					t.Errorf("Prefix(%d, %x/%d): %q, not %q", w, p.A, p.Len, got, want)
				}
			}
		}
	}
}

// noLength are endings that no prefix has: no slash, more than one, and what
// is no Number of at most 128.
var noLength = []string{
	"", "/", "//", "//0", "/0/", "/0/0", "/8/8", "0", " 0", ".0", ":0", "\\0", "|0", "/00", "/08", "/008", "/000000000", "/0000000000",
	"/129", "/130", "/200", "/255", "/256", "/999", "/1000", "/999999999", "/1000000000", "/4294967296", "/4294967304", "/18446744073709551616",
	"/+8", "/-8", "/-0", "/+0", "/ 8", "/8 ", " /8", "/8\n", "/8\x00", "/8.0", "/1e1", "/0x8", "/a", "/A", "/1_6", "/\u0660", "/255.0.0.0",
}

func TestParsePrefixForm(t *testing.T) { // P3.2
	for _, w := range families {
		for _, s := range noLength {
			s = addrText(w, addr.Addr{}) + s
			if p, errno := written.ParsePrefix(w, s); errno != api.ErrForm || p != (prefix.Prefix{}) {
				t.Errorf("ParsePrefix(%d, %q): %x/%d, %d", w, s, p.A, p.Len, errno)
			}
		}
		for _, s := range noAddr[w] {
			for _, end := range []string{"/0", "/8", "/128", "/129", "/", "x"} {
				if p, errno := written.ParsePrefix(w, s+end); errno != api.ErrForm || p != (prefix.Prefix{}) {
					t.Errorf("ParsePrefix(%d, %q): %x/%d, %d", w, s+end, p.A, p.Len, errno)
				}
			}
		}
	}
}

// TestParsePrefixNotValid has texts of the right form whose prefix there is
// not in the family.
func TestParsePrefixNotValid(t *testing.T) { // P3.2
	for _, c := range []struct {
		w int
		s string
	}{
		{v4, "0.0.0.0/33"},
		{v4, "0.0.0.0/100"},
		{v4, "0.0.0.0/128"},
		{v4, "255.255.255.255/33"},
		{v4, "0.0.0.1/0"},
		{v4, "128.0.0.0/0"},
		{v4, "10.1.0.0/15"},
		{v4, "10.1.0.0/8"},
		{v4, "10.1.2.3/31"},
		{v4, "0.0.0.1/31"},
		{v6, "8000:0000:0000:0000:0000:0000:0000:0000/0"},
		{v6, "0a01:0000:0000:0000:0000:0000:0000:0000/15"},
		{v6, "0000:0000:0000:0000:0000:0000:0000:0001/127"},
		{v6, "0000:0000:0000:0000:0000:0000:0000:0001/32"},
		{v6, "0000:0000:0000:0000:8000:0000:0000:0000/64"},
	} {
		if p, errno := written.ParsePrefix(c.w, c.s); errno != api.ErrBad || p != (prefix.Prefix{}) {
			t.Errorf("ParsePrefix(%d, %q): %x/%d, %d", c.w, c.s, p.A, p.Len, errno)
		}
	}
}

func TestParsePrefixEachLength(t *testing.T) { // P3.2
	for _, w := range families {
		for _, a := range of(w) {
			for n := range 140 {
				checkPrefix(t, w, fmt.Sprintf("%s/%d", addrText(w, a), n))
			}
		}
	}
}

func TestThereAndBack(t *testing.T) { // P3.3
	for _, w := range families {
		for _, a := range of(w) {
			s := written.Addr(w, a)
			if got, errno := written.ParseAddr(w, s); got != a || errno != api.OK {
				t.Errorf("ParseAddr(%d, %q): %x, %d", w, s, got, errno)
			}
		}
		for _, p := range prefixes(w) {
			s := written.Prefix(w, p)
			if got, errno := written.ParsePrefix(w, s); got != p || errno != api.OK {
				t.Errorf("ParsePrefix(%d, %q): %x/%d, %d", w, s, got.A, got.Len, errno)
			}
		}
	}
}

// TestNoOtherText has texts beside those that are right, as both kinds of text
// of both families: one that is parsed must be the text of what it is parsed to.
func TestNoOtherText(t *testing.T) { // P3.1, P3.2, P3.3
	var right []string
	for _, a := range []addr.Addr{{}, {0x0a01000000000000, 0}, {0xc7fa190900000000, 0}, {left, 0}} {
		right = append(right, addrText(v4, a))
		for _, n := range []int{7, 16, 25, 32} {
			right = append(right, prefixText(v4, prefix.Make(a, n)))
		}
	}
	for _, a := range []addr.Addr{{}, {0x0123456789abcdef, 0xfedcba9876543210}, {ones, ones}} {
		right = append(right, addrText(v6, a))
		for _, n := range []int{0, 64, 121, 128} {
			right = append(right, prefixText(v6, prefix.Make(a, n)))
		}
	}
	for _, r := range right {
		for _, s := range neighbors(r) {
			for _, w := range families {
				checkAddr(t, w, s)
				checkPrefix(t, w, s)
			}
		}
	}
}

func TestVeryLong(t *testing.T) { // P3.1, P3.2, P3.3
	for _, s := range veryLong() {
		if n, ok := written.Number(s, math.MaxInt); ok || n != 0 {
			t.Errorf("Number(%s): %d", short(s), n)
		}
		for _, w := range families {
			if a, errno := written.ParseAddr(w, s); errno != api.ErrForm || a != (addr.Addr{}) {
				t.Errorf("ParseAddr(%d, %s): %x, %d", w, short(s), a, errno)
			}
			if p, errno := written.ParsePrefix(w, s); errno != api.ErrForm || p != (prefix.Prefix{}) {
				t.Errorf("ParsePrefix(%d, %s): %x/%d, %d", w, short(s), p.A, p.Len, errno)
			}
		}
	}
}
