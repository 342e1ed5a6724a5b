package merge_test

import (
	"cmp"
	"math"
	"slices"
	"strings"
	"testing"

	"pigeonhole/addr"
	"pigeonhole/entry"
	"pigeonhole/merge"
	"pigeonhole/prefix"
	"pigeonhole/prune"
	"pigeonhole/rib"
	"pigeonhole/word"
)

const (
	v4   = 32
	v6   = 128
	most = 256 // routes of a table
)

// modes are all of them; others are none.
var (
	modes  = []int{0, 1, 2}
	others = []int{-1, 3, 4, -2, -3, 255, 256, 257, 258, 1 << 32, 1<<32 + 1, 1<<32 + 2, math.MinInt, math.MinInt + 1, math.MaxInt}
)

// begins is what prefixes begin with, and what words tell between their spots.
const begins = "01011010000000010000001000000011000001000000010100000110000001110111000011110001111100101111001111110100111101011111011011110111"

// item is an entry whose word is a text of its bits at some spots: 0 and 1 are
// told, * and + are free, and + has a bit of Value that does not count. What the
// package answers is held against such texts and not against words.
type item struct {
	bits        string
	len, action int
}

// free is a text of 128 bits.
const free = "********************************************************************************************************************************"

// ground is where the bits of texts are, in their order, and a text of 128 bits
// that all words have elsewhere.
type ground struct {
	spots   []int
	between string
}

// grounds have the edges of an address and of its halves and families.
var grounds = []ground{
	{[]int{0, 1, 2, 3}, free}, {[]int{0, 1, 2, 3}, begins},
	{[]int{30, 31, 32, 33}, free}, {[]int{0, 31, 32, 63}, begins},
	{[]int{62, 63, 64, 65}, begins}, {[]int{1, 63, 64, 126}, free},
	{[]int{124, 125, 126, 127}, begins}, {[]int{0, 63, 64, 127}, begins},
}

// first has the first spots alone.
func (g ground) first(n int) ground { return ground{g.spots[:n], g.between} }

// address has the bits of a text at the spots.
func (g ground) address(bits string) addr.Addr {
	return ground{g.spots, begins}.bits(bits, "1+")
}

// entry is that of an item.
func (g ground) entry(x item) entry.Entry {
	w := word.Word{Value: g.bits(x.bits, "1+"), Mask: g.bits(x.bits, "01")}
	return entry.Entry{W: w, Len: x.len, Action: x.action}
}

// bits are set where a text has one of some characters.
func (g ground) bits(text, set string) addr.Addr {
	all := []byte(g.between)
	for i := range text {
		all[g.spots[i]] = text[i]
	}
	var a addr.Addr
	for k, c := range all {
		if strings.IndexByte(set, c) >= 0 {
			a[k/64] |= 1 << (63 - k%64)
		}
	}
	return a
}

// entries are those of all items.
func (g ground) entries(l []item) []entry.Entry {
	var made []entry.Entry
	for _, x := range l {
		made = append(made, g.entry(x))
	}
	return made
}

// told tells whether a bit of a text counts.
func told(c byte) bool { return c == '0' || c == '1' }

// number is a bit of Value or of Mask.
func number(set bool) int {
	if set {
		return 1
	}
	return 0
}

// before is the order of a sorted list.
func before(x, y item) int {
	value, mask := 0, 0
	for i := range x.bits {
		a, b := x.bits[i], y.bits[i]
		value = cmp.Or(value, number(a == '1' || a == '+')-number(b == '1' || b == '+'))
		mask = cmp.Or(mask, number(told(a))-number(told(b)))
	}
	return cmp.Or(y.len-x.len, value, mask, x.action-y.action)
}

// both is what two items become: the bits that are told are the same in number
// and place, and one of them differs.
func both(x, y item) (item, bool) {
	if x.len != y.len || x.action != y.action {
		return item{}, false
	}
	differ, bits := 0, []byte(x.bits)
	for i, a := range bits {
		b := y.bits[i]
		if told(a) != told(b) || differ > 1 {
			return item{}, false
		}
		if told(a) && a != b {
			differ++
		}
		if !told(a) || a != b {
			bits[i] = '*'
		}
	}
	return item{string(bits), x.len, x.action}, differ == 1
}

// pair is the first two items that become one.
func pair(l []item) (int, int, bool) {
	for i := range l {
		for j := i + 1; j < len(l); j++ {
			if _, ok := both(l[i], l[j]); ok {
				return i, j, true
			}
		}
	}
	return 0, 0, false
}

// merged is the document's own definition.
func merged(l []item) []item {
	l = slices.SortedFunc(slices.Values(l), before)
	for {
		i, j, found := pair(l)
		if !found {
			return l
		}
		x, _ := both(l[i], l[j])
		l = slices.Delete(l, j, j+1)
		l[i] = x
		slices.SortFunc(l, before)
	}
}

// meet tells whether no bit is told by both, and otherwise.
func meet(x, y item) bool {
	for i := range x.bits {
		a, b := x.bits[i], y.bits[i]
		if told(a) && told(b) && a != b {
			return false
		}
	}
	return true
}

// simple is the document's own definition.
func simple(l []item) bool {
	for i, x := range l {
		for _, y := range l[:i] {
			if x.len == y.len && meet(x, y) {
				return false
			}
		}
	}
	return true
}

// texts are all texts of so many of some characters.
func texts(n int, of string) []string {
	l := []string{""}
	for range n {
		var longer []string
		for _, text := range l {
			for _, c := range of {
				longer = append(longer, text+string(c))
			}
		}
		l = longer
	}
	return l
}

// items have each of some texts with the same length and action.
func items(bits []string, n, action int) []item {
	var l []item
	for _, text := range bits {
		l = append(l, item{text, n, action})
	}
	return l
}

// lists calls f with all lists of up to so many of some items, in each of which
// no item comes before an earlier one.
func lists(from []item, most int, f func(l []item)) {
	var l []item
	var longer func(k int)
	longer = func(k int) {
		f(l)
		if len(l) == most {
			return
		}
		for ; k < len(from); k++ {
			l = append(l, from[k])
			longer(k)
			l = l[:len(l)-1]
		}
	}
	longer(0)
}

// subsets calls f with all lists without repetitions.
func subsets(from []item, f func(l []item)) {
	for set := range 1 << len(from) {
		f(chosen(from, set))
	}
}

// chosen are the items that the bits of a number choose.
func chosen(from []item, set int) []item {
	var l []item
	for i, x := range from {
		if set>>i&1 == 1 {
			l = append(l, x)
		}
	}
	return l
}

// sequence makes numbers without a pattern, always the same ones.
func sequence(seed uint64) func(below int) int {
	x := seed
	return func(below int) int {
		x = x*6364136223846793005 + 1442695040888963407
		return int(x >> 33 % uint64(below))
	}
}

// shuffled is a list in an order without a pattern.
func shuffled[T any](l []T, next func(below int) int) []T {
	l = slices.Clone(l)
	for i := range l {
		j := next(i + 1)
		l[i], l[j] = l[j], l[i]
	}
	return l
}

// check holds Merge and Simple against the definitions, and the list against what
// it was. Where it is Simple, each address is looked up in both lists.
func check(t *testing.T, g ground, l []item) {
	t.Helper()
	given := g.entries(l)
	was := slices.Clone(given)
	got := merge.Merge(given)
	if want := g.entries(merged(l)); !slices.Equal(got, want) {
		t.Fatalf("Merge of %v at %v: %x, not %x", l, g, got, want)
	}
	apart := simple(l)
	if merge.Simple(given) != apart {
		t.Fatalf("Simple of %v at %v: %t", l, g, !apart)
	}
	if apart {
		checkSame(t, g, given, got)
	}
	if !slices.Equal(given, was) {
		t.Fatalf("the list %v at %v was changed", l, g)
	}
}

// checkSame has the merged list of one that is Simple.
func checkSame(t *testing.T, g ground, l, merged []entry.Entry) {
	t.Helper()
	if !merge.Simple(merged) {
		t.Fatalf("the list %x is Simple, and merged it is %x", l, merged)
	}
	for _, bits := range texts(len(g.spots), "01") {
		a := g.address(bits)
		if got, want := entry.Tell(merged, a), entry.Tell(l, a); got != want {
			t.Fatalf("the list %x, merged, gives %x the action %d, not %d", l, a, got, want)
		}
	}
}

// TestAllListsOfTwoBits has all lists of up to four of the words of two bits, in
// an order without a pattern, with bits that do not count, too.
func TestAllListsOfTwoBits(t *testing.T) { // P10.1, P10.2
	next := sequence(1)
	for i, g := range grounds {
		g.spots = g.spots[1:3]
		from := items(texts(2, "01*+"), 24, 5)
		n := 3
		if i == 4 {
			n = 4
		}
		lists(from, n, func(l []item) { check(t, g, shuffled(l, next)) })
	}
}

// TestAllSetsOfWords has all sets of the nine words of two bits, and all sets of
// the eight words of three bits that are told and of those with one free bit.
func TestAllSetsOfWords(t *testing.T) { // P10.1, P10.2
	for _, g := range grounds {
		subsets(items(texts(2, "01*"), 8, 1), func(l []item) { check(t, g.first(2), l) })
		subsets(items(texts(3, "01"), 8, 1), func(l []item) { check(t, g.first(3), l) })
	}
	var one []string
	for _, bits := range texts(2, "01") {
		one = append(one, "*"+bits, bits[:1]+"*"+bits[1:], bits+"*")
	}
	g := ground{[]int{63, 64, 127}, begins}
	subsets(items(one, 8, 1), func(l []item) { check(t, g, l) })
}

// TestAllSetsOfFourBits has the prefixes of one length as tables have them.
func TestAllSetsOfFourBits(t *testing.T) { // P10.1, P10.2
	from := items(texts(4, "01"), 20, 1)
	g := ground{[]int{62, 63, 64, 65}, begins}
	for set := 0; set < 1<<16; set += 5 {
		check(t, g, chosen(from, set))
	}
}

// TestBitsThatDoNotCount has words of which two and two match the same: where one
// of them merges before it is its turn, the other one must wait for its own.
func TestBitsThatDoNotCount(t *testing.T) { // P10.1
	for i := range 4 {
		var from []item
		for _, bits := range texts(3, "01") {
			for _, c := range "*+" {
				from = append(from, item{bits[:i] + string(c) + bits[i:], 20, 1})
			}
		}
		for set := 0; set < 1<<16; set += 13 {
			check(t, grounds[i+4], chosen(from, set))
		}
	}
}

// TestAllListsOfLengths has words of one bit with lengths and actions that are
// the same or not, some of them at or beyond the edges.
func TestAllListsOfLengths(t *testing.T) { // P10.1, P10.2
	next := sequence(2)
	for i, pick := range [][2][2]int{
		{{8, 9}, {1, 2}}, {{0, 128}, {255, 1}}, {{-1, 0}, {-1, 0}}, {{-1, 1}, {-1, 1}}, {{128, 129}, {255, 256}},
		{{math.MinInt32, math.MaxInt32}, {1 << 40, -1 << 40}}, {{0, 1 << 32}, {0, 1 << 32}},
	} {
		var from []item
		for _, n := range pick[0] {
			for _, action := range pick[1] {
				from = append(from, items([]string{"0", "1", "*", "+"}, n, action)...)
			}
		}
		g := grounds[i]
		g.spots = g.spots[3:]
		lists(from, 3, func(l []item) { check(t, g, shuffled(l, next)) })
	}
}

// random are items without a pattern: one in so many characters is free, and few
// of these have a bit that does not count.
func random(next func(below int) int, many, bits, free, lens, acts int) []item {
	var l []item
	for range many {
		x := item{len: 20 + next(lens), action: 1 + next(acts)}
		for range bits {
			c := "01"[next(2)]
			if next(free) == 0 {
				c = "***+"[next(4)]
			}
			x.bits += string(c)
		}
		l = append(l, x)
	}
	return l
}

// TestWithoutPattern has long chains of merges, in which entries wait for others.
func TestWithoutPattern(t *testing.T) { // P10.1, P10.2
	next := sequence(3)
	wide := ground{[]int{0, 1, 31, 32, 62, 63, 64, 65, 126, 127}, begins}
	for i := range 1500 {
		g := wide.first(4 + i%5)
		check(t, g, random(next, 1+i%60, len(g.spots), 2+i%13, 1+i%2, 1+i%3))
	}
}

// TestSimpleSets has lists that are Simple and yet have words of all kinds: each
// word is taken if it does not meet those that were.
func TestSimpleSets(t *testing.T) { // P10.1, P10.2
	next := sequence(4)
	wide := ground{[]int{3, 31, 32, 63, 64, 100, 127}, begins}
	for i := range 400 {
		var l []item
		for _, x := range random(next, 200, len(wide.spots), 1+i%6, 1+i%3, 1+i%2) {
			if simple(append(slices.Clone(l), x)) {
				l = append(l, x)
			}
		}
		check(t, wide, l)
	}
}

// whole has all bits of an address.
func whole() ground {
	g := ground{between: free}
	for k := range v6 {
		g.spots = append(g.spots, k)
	}
	return g
}

// turned is a text with another bit.
func turned(bits string, k int) string {
	return bits[:k] + string('0'+'1'-bits[k]) + bits[k+1:]
}

// TestMergeOfPairs turns one bit of a word that tells all bits, and two: the
// former merge, and the latter do not.
func TestMergeOfPairs(t *testing.T) { // P10.1
	all := whole()
	for k := range v6 {
		one := turned(begins, k)
		l := all.entries(items([]string{begins, one}, 128, 9))
		want := all.entries(items([]string{begins[:k] + "*" + begins[k+1:]}, 128, 9))
		if got := merge.Merge(l); !slices.Equal(got, want) {
			t.Errorf("Merge of words that differ at bit %d: %x", k, got)
		}
		for j := range k {
			l := all.entries(items([]string{begins, turned(one, j)}, 128, 9))
			if got := merge.Merge(l); !slices.Equal(got, entry.Sort(l)) {
				t.Errorf("Merge of words that differ at the bits %d and %d: %x", j, k, got)
			}
		}
	}
}

// TestSimpleOfPairs frees one bit of a word that tells all bits, and turns
// another one: only if it is the same do the words meet.
func TestSimpleOfPairs(t *testing.T) { // P10.1
	all := whole()
	for k := range v6 {
		x := item{begins[:k] + "*" + begins[k+1:], 128, 9}
		for j := range v6 {
			y := item{turned(begins, j), 128, 8}
			l := all.entries([]item{x, y})
			if got := merge.Simple(l); got != (j != k) {
				t.Errorf("Simple with bit %d free and bit %d another one: %t", k, j, got)
			}
		}
	}
}

// TestMergeByHand has lists whose results follow from the order of the pairs.
func TestMergeByHand(t *testing.T) { // P10.1
	of := func(texts string) []item { return items(strings.Fields(texts), 16, 3) }
	for _, c := range []struct{ name, given, want string }{
		{"one entry", "01", "01"},
		{"a pair", "01 11", "*1"},
		{"of two second entries the first one", "00 01 10", "0* 10"},
		{"of two first entries the first one", "01 10 11", "*1 10"},
		{"all words", "11 10 01 00", "**"},
		{"the last word is missing", "000 001 010 011 100 101 110", "0** 10* 110"},
		{"the first word is missing", "001 010 011 100 101 110 111", "0*1 *10 10* 111"},
		{"what became of two merges with another one", "0* 10 11", "**"},
		{"a word twice", "00 00 01", "0* 00"},
		{"both words twice", "00 00 01 01", "0* 0*"},
		{"some words twice", "00 01 00 01 10 11", "** 0*"},
		{"words that cover others", "0* 00 1* 11", "** 00 11"},
		{"other free bits", "0* *1", "0* *1"},
		{"a word that covers both", "00 0* 01", "0* 0*"},
		{"bits that do not count", "0+ 1*", "**"},
		{"bits that do not count, and no pair", "0+ 11", "0+ 11"},
		{"bits that do not count, before others", "0* 0+ 1+", "** 0+"},
	} {
		width := len(of(c.given)[0].bits)
		for _, g := range grounds {
			g = g.first(width)
			want := entry.Sort(g.entries(of(c.want)))
			if got := merge.Merge(g.entries(of(c.given))); !slices.Equal(got, want) {
				t.Errorf("%s: %x, not %x", c.name, got, want)
			}
		}
	}
}

// actions are those of a table whose prefixes are texts of their bits.
type actions map[string]int

// of is the prefix with such bits.
func of(bits string) prefix.Prefix {
	g := ground{between: bits + free[len(bits):]}
	return prefix.Prefix{A: g.bits("", "1"), Len: len(bits)}
}

// via is a route.
func via(p prefix.Prefix, action int) rib.Route { return rib.Route{P: p, Action: action} }

// table is the routes, as a text comes before those that it begins.
func (m actions) table() []rib.Route {
	var bits []string
	for text := range m {
		bits = append(bits, text)
	}
	slices.Sort(bits)
	var l []rib.Route
	for _, text := range bits {
		l = append(l, via(of(text), m[text]))
	}
	return l
}

// items are those of some of its routes, with the bits from one place to another
// one, between which their words differ.
func (m actions) items(from, to int, kept []rib.Route) []item {
	var l []item
	for text, action := range m {
		if slices.Contains(kept, via(of(text), action)) {
			l = append(l, item{(text + free[len(text):])[from:to], len(text), action})
		}
	}
	return l
}

// edges are the addresses at which the action of a table may change: the first
// one of all, that of each prefix, and the one behind each prefix.
func edges(l []rib.Route) []addr.Addr {
	a := []addr.Addr{{}}
	for _, r := range l {
		a = append(a, r.P.A, prefix.Last(v6, r.P), addr.Next(prefix.Last(v6, r.P)))
	}
	return a
}

// checkBuild holds Build of a table whose prefixes differ between two places
// against the definition in each mode, and the table against what it was.
func checkBuild(t *testing.T, m actions, from, to int) {
	t.Helper()
	l := m.table()
	was := slices.Clone(l)
	kept := prune.Keep(l)
	g := ground{between: begins[:from] + free[from:]}
	for k := from; k < to; k++ {
		g.spots = append(g.spots, k)
	}
	plain := slices.SortedFunc(slices.Values(m.items(from, to, l)), before)
	pruned := slices.SortedFunc(slices.Values(m.items(from, to, kept)), before)
	for mode, want := range [][]item{plain, pruned, merged(pruned)} {
		if got := merge.Build(l, mode); !slices.Equal(got, g.entries(want)) {
			t.Fatalf("Build of %v in the mode %d: %x, not %x", m, mode, got, g.entries(want))
		}
	}
	if !slices.Equal(l, was) {
		t.Fatalf("the table of %v was changed to %x", m, l)
	}
}

// checkActions asks for the action of each address that matters in each mode.
func checkActions(t *testing.T, l []rib.Route, at []addr.Addr) {
	t.Helper()
	for _, mode := range modes {
		built := merge.Build(l, mode)
		if !merge.Simple(built) || !entry.Ordered(built) {
			t.Fatalf("Build of %x in the mode %d is not Simple: %x", l, mode, built)
		}
		for _, a := range at {
			if got, want := entry.Tell(built, a), rib.Tell(l, a); got != want {
				t.Fatalf("Build of %x in the mode %d gives %x the action %d, not %d", l, mode, a, got, want)
			}
		}
	}
}

// behind are all texts of up to so many bits behind others.
func behind(bits string, depth int) []string {
	l := []string{bits}
	if depth > 0 {
		l = slices.Concat(l, behind(bits+"0", depth-1), behind(bits+"1", depth-1))
	}
	return l
}

// numbered is the table whose prefixes have the digits of a number as actions. A
// 0 stands for no route.
func numbered(texts []string, number, digits int) actions {
	m := actions{}
	for _, bits := range texts {
		if action := number % digits; action > 0 {
			m[bits] = action
		}
		number /= digits
	}
	return m
}

// TestAllTables has all tables of the seven prefixes with at most two bits behind
// some place, each without a route or with one of two actions.
func TestAllTables(t *testing.T) { // P10.1, P10.2
	for _, base := range []int{0, 30, 31, 62, 63, 64, 126} {
		texts := behind(begins[:base], 2)
		for number := range 2187 { // three to the power of seven
			m := numbered(texts, number, 3)
			checkBuild(t, m, base, base+2)
			checkActions(t, m.table(), edges(m.table()))
		}
	}
}

// TestDeeperTables has a part of the tables with up to three bits, whose leaves
// are all there in many of them.
func TestDeeperTables(t *testing.T) { // P10.1, P10.2
	texts := behind(begins[:62], 3)
	slices.SortStableFunc(texts, func(s, t string) int { return len(t) - len(s) })
	for number := 0; number < 14348907; number += 4001 { // three to the power of 15
		m := numbered(texts, number, 3)
		checkBuild(t, m, 62, 65)
		checkActions(t, m.table(), edges(m.table()))
	}
}

// TestMergedAddresses has tables whose words have free bits in front of others,
// at all addresses of eight bits, each with what follows them at 0 and at 1.
func TestMergedAddresses(t *testing.T) { // P10.2
	next := sequence(6)
	var at []addr.Addr
	for _, bits := range texts(8, "01") {
		at = append(at, of(bits).A, prefix.Last(v4, of(bits)), prefix.Last(v6, of(bits)))
	}
	eight := texts(8, "01")
	for i := range 150 {
		m := actions{}
		for range 1 + i {
			bits := eight[next(most)]
			m[bits[:8-next(4)*next(2)]] = 1 + next(1+i%3)
		}
		checkActions(t, m.table(), at)
	}
}

// leaves is a table of 256 routes that have n bits, of which none covers another
// one, with the actions in turn.
func leaves(n int, turn ...int) actions {
	m := actions{}
	for v, bits := range texts(8, "01") {
		m[begins[:n-8]+bits] = turn[v%len(turn)]
	}
	return m
}

// tower is a table of prefixes of all lengths up to w, each of which covers the
// next one, with the actions in turn.
func tower(w int, turn ...int) actions {
	m := actions{}
	for n := range w + 1 {
		m[begins[:n]] = turn[n%len(turn)]
	}
	return m
}

// tables are great ones, and such as are made without a pattern.
func tables() []actions {
	l := []actions{
		{}, {"": 1}, {begins: 255}, leaves(8, 1), leaves(32, 255), leaves(128, 7), leaves(32, 1, 2), leaves(64, 1, 2, 2, 1),
		leaves(70, 1, 1, 2, 2, 3), tower(v4, 1), tower(v6, 1), tower(v6, 1, 2), tower(v6, 3, 3, 2, 2, 2, 1),
	}
	next := sequence(5)
	for i := range 18 {
		m := actions{}
		w := []int{v4, v6}[i%2]
		for range 1 + i*14 {
			bits := begins[:next(w)]
			for range next(8) {
				bits += []string{"0", "1"}[next(2)]
			}
			m[bits[:min(len(bits), w)]] = 1 + next(1+i%4)
		}
		l = append(l, m)
	}
	return l
}

func TestGreatTables(t *testing.T) { // P10.1, P10.2
	for _, m := range tables() {
		l := m.table()
		if !rib.Table(v6, l) {
			t.Errorf("%v is not a table", m)
		}
		checkBuild(t, m, 0, v6)
		checkActions(t, l, edges(l))
		for _, mode := range others {
			if got := merge.Build(l, mode); len(got) != 0 {
				t.Errorf("Build in the mode %d: %x", mode, got)
			}
		}
	}
}

// TestNumbers has tables of which it can be said beforehand how many entries they
// become in each mode, whatever the definitions in these tests say.
func TestNumbers(t *testing.T) { // P10.1
	covered := leaves(16, 9)
	covered[begins[:8]] = 9
	for _, c := range []struct {
		name string
		m    actions
		want []int
	}{
		{"no routes", actions{}, []int{0, 0, 0}},
		{"one route of no bits", actions{"": 1}, []int{1, 1, 1}},
		{"256 routes that become one", leaves(24, 3), []int{256, 256, 1}},
		{"256 routes that become two", leaves(24, 3, 4), []int{256, 256, 2}},
		{"256 routes that become three", leaves(24, 3, 3, 3, 4), []int{256, 256, 3}},
		{"256 routes that are covered", covered, []int{257, 1, 1}},
		{"a tower with one action", tower(v6, 5), []int{129, 1, 1}},
		{"a tower with two actions", tower(v6, 5, 6), []int{129, 129, 129}},
	} {
		for mode, want := range c.want {
			if got := merge.Build(c.m.table(), mode); len(got) != want {
				t.Errorf("%s: %d in the mode %d, not %d", c.name, len(got), mode, want)
			}
		}
	}
}

func TestMode(t *testing.T) { // P10.1
	if merge.Plain != 0 || merge.Pruned != 1 || merge.Merged != 2 {
		t.Error("the modes are", merge.Plain, merge.Pruned, merge.Merged)
	}
	for _, n := range modes {
		if !merge.Mode(n) {
			t.Errorf("Mode(%d) is false", n)
		}
	}
	for _, n := range others {
		if merge.Mode(n) {
			t.Errorf("Mode(%d) is true", n)
		}
	}
	for n := -1000; n <= 1000; n++ {
		if merge.Mode(n) != (n == 0 || n == 1 || n == 2) {
			t.Errorf("Mode(%d): %t", n, merge.Mode(n))
		}
	}
}

func TestExample(t *testing.T) { // example 1
	l := []rib.Route{via(prefix.Prefix{A: addr.Addr{0x0a << 56, 0}, Len: 9}, 1), via(prefix.Prefix{A: addr.Addr{0x0a80 << 48, 0}, Len: 9}, 1)}
	if !rib.Table(v4, l) {
		t.Errorf("%x is not a table", l)
	}
	w := word.Word{Value: addr.Addr{0x0a << 56, 0}, Mask: addr.Addr{0xff << 56, 0}}
	want := []entry.Entry{{W: w, Len: 9, Action: 1}}
	if got := merge.Build(l, merge.Merged); !slices.Equal(got, want) {
		t.Errorf("the example: %x", got)
	}
	if got := merge.Merge(merge.Build(l, merge.Plain)); !slices.Equal(got, want) {
		t.Errorf("the example, merged: %x", got)
	}
	l[1].Action = 2
	if got := merge.Build(l, merge.Merged); len(got) != 2 {
		t.Errorf("the example with another action: %x", got)
	}
}

// soil changes a list, with its spare memory.
func soil(l []entry.Entry) {
	for i := range l[:cap(l)] {
		l[:cap(l)][i] = entry.Entry{Len: 99, Action: 99}
	}
}

// TestMemory has lists with spare memory, which no call may touch, and changes
// what was returned, which may change nothing else.
func TestMemory(t *testing.T) { // P10.1
	for _, m := range tables() {
		routes := append(m.table(), via(of("1"), 7), via(of("0"), 8))
		l := routes[:len(m)]
		routesWere := slices.Clone(routes)
		spare := append(merge.Build(l, merge.Plain), entry.Of(of("1"), 7), entry.Of(of("0"), 8))
		given := spare[:len(spare)-2]
		were := slices.Clone(spare)
		merge.Simple(given)
		lists := [][]entry.Entry{merge.Merge(given), merge.Build(l, merge.Plain), merge.Build(l, merge.Pruned), merge.Build(l, merge.Merged)}
		var stay [][]entry.Entry
		for _, got := range lists {
			stay = append(stay, slices.Clone(got))
		}
		soil(merge.Merge(given))
		for _, mode := range modes {
			soil(merge.Build(l, mode))
		}
		if !slices.Equal(spare, were) || !slices.Equal(routes, routesWere) {
			t.Errorf("the memory of %v was changed", m)
		}
		soil(spare)
		for i, got := range lists {
			if !slices.Equal(got, stay[i]) {
				t.Errorf("result %d for %v shares memory", i, m)
			}
			soil(got)
			lists[i] = nil
			stay[i] = nil
		}
	}
}

// TestMemoryOfOne has lists that need no change at all.
func TestMemoryOfOne(t *testing.T) { // P10.1
	x, y := entry.Of(of("01"), 1), entry.Of(of("0"), 1)
	l := []entry.Entry{x, y}
	soil(merge.Merge(l))
	soil(merge.Merge(l[:1]))
	soil(merge.Merge(l[:0]))
	if l[0] != x || l[1] != y {
		t.Errorf("the list was changed to %x", l)
	}
}

// TestAgain has each call several times, in another order and with another
// capacity, and nil and empty lists, which are equivalent.
func TestAgain(t *testing.T) { // P10.1
	next := sequence(7)
	for _, m := range tables() {
		l := m.table()
		plain := merge.Build(l, merge.Plain)
		want := merge.Merge(plain)
		for range 5 {
			other := slices.Grow(shuffled(plain, next), 100)
			if !slices.Equal(merge.Merge(other), want) || !merge.Simple(other) {
				t.Errorf("the calls of %v differ", m)
			}
			if !slices.Equal(merge.Build(l, merge.Merged), merge.Build(slices.Grow(l, 50), merge.Merged)) {
				t.Errorf("Build of %v differs", m)
			}
		}
	}
	for _, l := range [][]entry.Entry{nil, {}, make([]entry.Entry, 0, 9)} {
		if len(merge.Merge(l)) != 0 || !merge.Simple(l) {
			t.Errorf("the calls of a list without entries: %x", merge.Merge(l))
		}
	}
	for _, l := range [][]rib.Route{nil, {}, make([]rib.Route, 0, 9)} {
		for _, mode := range slices.Concat(modes, others) {
			if got := merge.Build(l, mode); len(got) != 0 {
				t.Errorf("Build of no routes in the mode %d: %x", mode, got)
			}
		}
	}
}

// TestOtherLists has lists of routes that are not tables: all of up to three of
// some, in any order, often the same one, among them such as are not valid. That
// the call ends, does not panic and leaves the list as it is is all that is
// promised.
func TestOtherLists(t *testing.T) { // P10.1
	from := []rib.Route{
		{}, via(of("0"), 1), via(of("01"), 1), via(of("01"), 2), via(of("1"), -1), via(of("11"), math.MaxInt),
		via(prefix.Prefix{Len: -1}, 1), via(prefix.Prefix{A: addr.Addr{1, 1}, Len: math.MinInt}, 0),
		via(prefix.Prefix{Len: 129}, 256), via(prefix.Prefix{A: addr.Addr{1 << 63, 1}, Len: math.MaxInt}, math.MinInt),
		via(prefix.Prefix{A: addr.Addr{1, 1}, Len: 1}, 1),
	}
	var longer func(l []rib.Route)
	longer = func(l []rib.Route) {
		was := slices.Clone(l)
		for _, mode := range append(others, modes...) {
			merge.Build(l, mode)
		}
		if !slices.Equal(l, was) {
			t.Fatalf("the list %x was changed to %x", was, l)
		}
		for _, r := range from {
			if len(l) < 3 {
				longer(append(slices.Clone(l), r))
			}
		}
	}
	longer(nil)
}

// full is an entry whose word tells all bits.
func full(a addr.Addr, n, action int) entry.Entry {
	return entry.Entry{W: word.Word{Value: a, Mask: addr.Mask(v6)}, Len: n, Action: action}
}

// TestLongLists are far longer than what a table becomes.
func TestLongLists(t *testing.T) { // P10.1
	const many = 1 << 14
	var cube, same, even, free, turn []entry.Entry
	for i := range many {
		cube = append(cube, full(addr.Addr{0, uint64(i)}, 128, 1))
		same = append(same, full(addr.Addr{5, 5}, 128, 1))
		even = append(even, full(addr.Addr{uint64(i), uint64(i)}, 128, 1))
		free = append(free, entry.Entry{W: word.Word{Value: addr.Addr{1 << 63, uint64(i)}, Mask: addr.Addr{1 << 63, 0}}, Len: 1, Action: 1})
		turn = append(turn, full(addr.Addr{uint64(i), 0}, i%129, i))
	}
	one := entry.Entry{W: word.Word{Mask: addr.Addr{math.MaxUint64, math.MaxUint64 - many + 1}}, Len: 128, Action: 1}
	for _, c := range []struct {
		name    string
		l, want []entry.Entry
		simple  bool
	}{
		{"all merge", cube, []entry.Entry{one}, true},
		{"all are the same", same, entry.Sort(same), false},
		{"none merge", even, entry.Sort(even), true},
		{"only bits that do not count differ", free, entry.Sort(free), false},
		{"the lengths and actions differ", turn, entry.Sort(turn), true},
	} {
		if got := merge.Merge(c.l); !slices.Equal(got, c.want) {
			t.Errorf("Merge where %s: %d entries", c.name, len(got))
		}
		if merge.Simple(c.l) != c.simple {
			t.Errorf("Simple where %s: %t", c.name, !c.simple)
		}
	}
	if merge.Simple(append(even, even[many/2])) {
		t.Error("Simple with one entry twice is true")
	}
}

// TestLongTables are lists of routes that are far longer than a table.
func TestLongTables(t *testing.T) { // P10.1
	const many = 20_000
	next := sequence(8)
	var apart, same, up, wild []rib.Route
	for i := range many {
		apart = append(apart, via(prefix.Prefix{A: addr.Addr{uint64(i), 0}, Len: 64}, 1))
		same = append(same, rib.Route{Action: i})
		up = append(up, via(prefix.Prefix{Len: i}, i))
		a := addr.Addr{uint64(next(1 << 30)), uint64(next(1 << 30))}
		wild = append(wild, via(prefix.Prefix{A: a, Len: next(400) - 100}, next(3)))
	}
	for _, l := range [][]rib.Route{apart, same, up, wild} {
		for _, mode := range append(others, modes...) {
			merge.Build(l, mode)
		}
	}
}
