package prune_test

import (
	"fmt"
	"math"
	"slices"
	"strings"
	"testing"

	"pigeonhole/addr"
	"pigeonhole/prefix"
	"pigeonhole/prune"
	"pigeonhole/rib"
)

const (
	v4   = 32
	v6   = 128
	most = 256 // routes of a table
)

// begins is what the prefixes of most of these tests begin with.
const begins = "01011010000000010000001000000011000001000000010100000110000001110111000011110001111100101111001111110100111101011111011011110111"

// bases are how many bits of it they begin with: at both edges of an address, at
// those between its words and its families, and within a word.
var bases = []int{0, 8, 30, 31, 32, 62, 63, 64, 126}

// actions are those of a table whose prefixes are texts of their bits. What the
// package answers is held against such texts and not against prefixes.
type actions map[string]int

// of is the prefix with such bits.
func of(bits string) prefix.Prefix {
	p := prefix.Prefix{Len: len(bits)}
	for k, c := range bits {
		if c == '1' {
			p.A[k/64] |= 1 << (63 - k%64)
		}
	}
	return p
}

// four is a prefix of V4.
func four(a uint64, n int) prefix.Prefix { return prefix.Prefix{A: addr.Addr{a << 32, 0}, Len: n} }

// via is a route.
func via(p prefix.Prefix, action int) rib.Route { return rib.Route{P: p, Action: action} }

// texts are the bits of the prefixes in the order of a table, as a text comes
// before those that it begins.
func (m actions) texts() []string {
	var l []string
	for bits := range m {
		l = append(l, bits)
	}
	slices.Sort(l)
	return l
}

// table is the routes.
func (m actions) table() []rib.Route {
	var l []rib.Route
	for _, bits := range m.texts() {
		l = append(l, via(of(bits), m[bits]))
	}
	return l
}

// kept is the document's own definition: of the kept routes whose bits begin
// those of a route and are not all of them, the longest one has another action,
// or there is none. Shorter routes come first, as those that they begin hang on
// them.
func (m actions) kept() actions {
	k := actions{}
	texts := m.texts()
	slices.SortStableFunc(texts, func(s, t string) int { return len(s) - len(t) })
	for _, bits := range texts {
		cover, found := "", false
		for other := range k {
			if other != bits && strings.HasPrefix(bits, other) && len(other) >= len(cover) {
				cover, found = other, true
			}
		}
		if !found || k[cover] != m[bits] {
			k[bits] = m[bits]
		}
	}
	return k
}

// edges are the addresses at which the action of a table may change: the first
// one of all, that of each prefix, and the one behind each prefix. Between two of
// them all addresses have the same action, so that these stand for every address.
func edges(l []rib.Route) []addr.Addr {
	a := []addr.Addr{{}}
	for _, r := range l {
		a = append(a, r.P.A, addr.Next(prefix.Last(v6, r.P)))
	}
	return a
}

// sequence makes numbers without a pattern, always the same ones.
func sequence(seed uint64) func(below int) int {
	x := seed
	return func(below int) int {
		x = x*6364136223846793005 + 1442695040888963407
		return int(x >> 33 % uint64(below))
	}
}

// behind are all texts of up to so many bits behind others.
func behind(bits string, depth int) []string {
	l := []string{bits}
	if depth > 0 {
		l = slices.Concat(l, behind(bits+"0", depth-1), behind(bits+"1", depth-1))
	}
	return l
}

// numbered is the table whose prefixes have the digits of a number as actions. A
// 0 stands for no route.
func numbered(texts []string, number, digits int) actions {
	m := actions{}
	for _, bits := range texts {
		if action := number % digits; action > 0 {
			m[bits] = action
		}
		number /= digits
	}
	return m
}

// random is a table of up to so many routes with few actions, of which many
// cover one another: each prefix goes on from where another one ends, or ends
// earlier.
func random(next func(below int) int, w, many, acts int) actions {
	m := actions{}
	texts := []string{""}
	for range many {
		bits := texts[next(len(texts))]
		for range next(6) {
			bits += []string{"0", "1"}[next(2)]
		}
		if next(8) == 0 {
			bits = bits[:len(bits)/2]
		}
		bits = bits[:min(len(bits), w)]
		texts = append(texts, bits)
		m[bits] = next(acts) + 1
	}
	return m
}

// tower is a table of prefixes of all lengths up to w, each of which covers the
// next one, with the actions in turn.
func tower(w int, turn ...int) actions {
	m := actions{}
	for n := range w + 1 {
		m[begins[:n]] = turn[n%len(turn)]
	}
	return m
}

// leaves is a table of 256 routes that have n bits, of which none covers another
// one, with the same action.
func leaves(n, action int) actions {
	m := actions{}
	for v := range most {
		m[begins[:n-8]+fmt.Sprintf("%08b", v)] = action
	}
	return m
}

// tables are great ones, and such as are made without a pattern.
func tables() []actions {
	l := []actions{
		{}, {"": 1}, {begins: 255}, leaves(8, 1), leaves(v4, 255), leaves(v6, 7),
		tower(v4, 1), tower(v6, 1), tower(v6, 1, 2), tower(v6, 1, 1, 2), tower(v6, 3, 3, 3, 3, 2, 2, 1), tower(v4, 255, 254),
	}
	under := leaves(8, 9)
	delete(under, "00000000")
	under[""] = 9
	l = append(l, under)
	next := sequence(5)
	for i := range 120 {
		l = append(l, random(next, []int{v4, v6}[i%2], 1+i*most/120, 1+i%4))
	}
	return l
}

// checkKeep holds the calls against the definition, and the table against what it
// was.
func checkKeep(t *testing.T, m actions) {
	t.Helper()
	l := m.table()
	was := slices.Clone(l)
	want := m.kept().table()
	if got := prune.Keep(l); !slices.Equal(got, want) {
		t.Fatalf("Keep(%v): %x", m, got)
	}
	if got := prune.Saved(l); got != len(l)-len(want) {
		t.Fatalf("Saved(%v): %d", m, got)
	}
	if !slices.Equal(l, was) {
		t.Fatalf("the table of %v was changed to %x", m, l)
	}
}

// checkNeeds asks for those prefixes.
func checkNeeds(t *testing.T, m actions, texts []string) {
	t.Helper()
	l := m.table()
	kept := m.kept()
	for _, bits := range texts {
		if got := prune.Needs(l, of(bits)); got != (kept[bits] > 0) {
			t.Fatalf("Needs(%v, %q): %t", m, bits, got)
		}
	}
}

// checkActions holds the kept routes against those of the table at every address,
// and against what they are when they are pruned again or when one is removed.
func checkActions(t *testing.T, m actions) {
	t.Helper()
	l := m.table()
	kept := prune.Keep(l)
	for _, a := range edges(l) {
		if got, want := rib.Tell(kept, a), rib.Tell(l, a); got != want {
			t.Fatalf("the kept routes of %v give %x the action %d, not %d", m, a, got, want)
		}
	}
	if again := prune.Keep(kept); !slices.Equal(again, kept) || prune.Saved(kept) != 0 {
		t.Fatalf("the kept routes of %v, pruned again: %x", m, again)
	}
	for _, r := range kept {
		if !prune.Needs(kept, r.P) {
			t.Fatalf("of the kept routes of %v, that of %x is not needed", m, r.P)
		}
		best, _ := rib.Best(kept, r.P.A)
		if best == r && rib.Tell(rib.Drop(kept, r.P), r.P.A) == r.Action {
			t.Fatalf("the kept routes of %v do without %x", m, r)
		}
	}
}

// checkAll has all the checks of a table.
func checkAll(t *testing.T, m actions, texts []string) {
	t.Helper()
	checkKeep(t, m)
	checkNeeds(t, m, texts)
	checkActions(t, m)
}

func TestAllTables(t *testing.T) { // P9.1, P9.2
	for _, base := range bases {
		texts := behind(begins[:base], 2)
		for number := range 1 << (2 * len(texts)) {
			checkAll(t, numbered(texts, number, 4), texts)
		}
	}
}

// TestDeeperTables has one more bit, and thus twice as many prefixes: a part of
// their tables with two actions.
func TestDeeperTables(t *testing.T) { // P9.1, P9.2
	texts := behind(begins[:62], 3)
	for number := 0; number < 14348907; number += 499 { // three to the power of 15
		checkAll(t, numbered(texts, number, 3), texts)
	}
}

// TestChains has all chains of up to six routes whose lengths are apart.
func TestChains(t *testing.T) { // P9.1, P9.2
	for _, lengths := range [][]int{{0, 1, 8, 31, 32, 33}, {3, 32, 63, 64, 65, 128}, {0, 62, 63, 96, 127, 128}} {
		var texts []string
		for _, n := range lengths {
			texts = append(texts, begins[:n])
		}
		for number := range 1 << (2 * len(texts)) {
			checkAll(t, numbered(texts, number, 4), texts)
		}
	}
}

func TestGreatTables(t *testing.T) { // P9.1, P9.2
	for _, m := range tables() {
		if !rib.Table(v6, m.table()) {
			t.Errorf("%v is not a table", m)
		}
		checkAll(t, m, append(m.texts(), behind(begins[:7], 3)...))
	}
}

// TestNumbers has tables of which it can be said beforehand how many routes are
// kept, whatever the definition in these tests says.
func TestNumbers(t *testing.T) { // P9.1
	under := leaves(8, 9)
	delete(under, "11111111")
	under[""] = 9
	other := leaves(8, 9)
	delete(other, "11111111")
	other[""] = 8
	for _, c := range []struct {
		name string
		m    actions
		kept int
	}{
		{"no routes", actions{}, 0},
		{"one route of no bits", actions{"": 1}, 1},
		{"256 routes that are apart", leaves(16, 3), 256},
		{"255 routes that are covered by one with the same action", under, 1},
		{"255 routes that are covered by one with another action", other, 256},
		{"a tower with one action", tower(v6, 200), 1},
		{"a tower with two actions in turn", tower(v6, 1, 2), 129},
		{"a tower with two actions in turn, twice each", tower(v4, 1, 1, 2, 2), 17},
	} {
		l := c.m.table()
		if len(prune.Keep(l)) != c.kept || prune.Saved(l) != len(l)-c.kept {
			t.Errorf("%s: %d kept, %d saved", c.name, len(prune.Keep(l)), prune.Saved(l))
		}
	}
}

// TestAllActions has each pair of actions: one route is kept where they are
// equal, however near each other they are.
func TestAllActions(t *testing.T) { // P9.1
	for x := 1; x <= 255; x++ {
		for y := 1; y <= 255; y++ {
			l := []rib.Route{via(of("0"), x), via(of("01"), y)}
			want := l
			if x == y {
				want = l[:1]
			}
			got := prune.Keep(l)
			if !slices.Equal(got, want) || prune.Needs(l, l[1].P) != (x != y) || prune.Saved(l) != 2-len(want) {
				t.Errorf("of the actions %d and %d: %x", x, y, got)
			}
		}
	}
}

// expect has a table of V4, of which those places are kept.
func expect(t *testing.T, l []rib.Route, places ...int) {
	t.Helper()
	if !rib.Table(v4, l) {
		t.Errorf("%x is not a table", l)
	}
	var want []rib.Route
	for _, i := range places {
		want = append(want, l[i])
	}
	if got := prune.Keep(l); !slices.Equal(got, want) {
		t.Errorf("Keep(%x): %x", l, got)
	}
	for i, r := range l {
		if got := prune.Needs(l, r.P); got != slices.Contains(places, i) {
			t.Errorf("Needs(%x, %x): %t", l, r.P, got)
		}
	}
	if got := prune.Saved(l); got != len(l)-len(places) {
		t.Errorf("Saved(%x): %d", l, got)
	}
}

func TestExample(t *testing.T) { // example 1
	expect(t, []rib.Route{via(four(0x0a000000, 8), 1), via(four(0x0a010000, 16), 1), via(four(0x0a010200, 24), 2)}, 0, 2)
}

func TestByHand(t *testing.T) { // P9.1
	all, net, sub, deep := four(0, 0), four(0x0a000000, 8), four(0x0a010000, 16), four(0x0a010200, 24)
	expect(t, nil)
	expect(t, []rib.Route{})
	expect(t, []rib.Route{via(all, 1)}, 0)
	expect(t, []rib.Route{via(all, 1), via(net, 1), via(sub, 1), via(deep, 1)}, 0)
	expect(t, []rib.Route{via(all, 1), via(net, 2), via(sub, 1), via(deep, 2)}, 0, 1, 2, 3)
	expect(t, []rib.Route{via(all, 1), via(net, 1), via(sub, 2), via(deep, 1)}, 0, 2, 3)
	expect(t, []rib.Route{via(all, 1), via(net, 2), via(sub, 2), via(deep, 1)}, 0, 1, 3)
	expect(t, []rib.Route{via(all, 1), via(net, 2), via(sub, 2), via(deep, 2)}, 0, 1)
	expect(t, []rib.Route{via(net, 1), via(deep, 1)}, 0)
	expect(t, []rib.Route{via(net, 1), via(sub, 1), via(four(0x0a020000, 16), 1), via(four(0x0b000000, 8), 1)}, 0, 3)
	expect(t, []rib.Route{via(net, 1), via(sub, 2), via(four(0x0a020000, 16), 2), via(four(0x0b000000, 8), 2)}, 0, 1, 2, 3)
	expect(t, []rib.Route{via(all, 3), via(net, 1), via(sub, 2), via(four(0x0a020000, 16), 1), via(four(0x0b000000, 8), 3)}, 0, 1, 2)
	expect(t, []rib.Route{via(all, 1), via(four(0, 1), 1), via(four(0, 8), 2), via(four(0, 32), 2), via(four(1, 32), 1)}, 0, 2, 4)
	expect(t, []rib.Route{via(four(0x0a000000, 9), 1), via(four(0x0a800000, 9), 1)}, 0, 1)
}

// TestNeedsOfOthers asks for prefixes that no route has: some beside those of a
// table, and some that are not valid. All its routes are kept.
func TestNeedsOfOthers(t *testing.T) { // P9.1
	l := []rib.Route{via(of(""), 1), via(of(begins[:16]), 2), via(of(begins[:64]), 3), via(of(begins), 4)}
	var others []prefix.Prefix
	for _, r := range l {
		for _, n := range []int{-1, -8, -128, math.MinInt, math.MinInt + 16, 1, 8, 17, 63, 65, 127, 129, 256, 256 + 16, 1<<32 + 16, math.MaxInt} {
			others = append(others, prefix.Prefix{A: r.P.A, Len: n})
		}
		others = append(others, prefix.Prefix{A: addr.With(r.P.A, 5, !addr.Bit(r.P.A, 5)), Len: r.P.Len})
		others = append(others, prefix.Prefix{A: addr.With(r.P.A, 127, !addr.Bit(r.P.A, 127)), Len: r.P.Len})
		others = append(others, prefix.Prefix{A: addr.Addr{r.P.A[1], r.P.A[0] | 1}, Len: r.P.Len})
	}
	for _, p := range others {
		if prune.Needs(l, p) || prune.Needs(nil, p) {
			t.Errorf("Needs of %x", p)
		}
	}
	for _, r := range l {
		if !prune.Needs(l, r.P) || prune.Needs(nil, r.P) {
			t.Errorf("Needs of %x", r.P)
		}
	}
}

// soil changes a list, with its spare memory.
func soil(l []rib.Route) {
	for i := range l[:cap(l)] {
		l[:cap(l)][i] = via(prefix.Prefix{A: addr.Addr{9, 9}, Len: 99}, 99)
	}
}

// TestMemory has tables with spare memory, which no call may touch, and changes
// what Keep returned, which may change nothing else.
func TestMemory(t *testing.T) { // P9.1
	for _, m := range tables() {
		spare := append(m.table(), via(of("1"), 7), via(of("0"), 8))
		was := slices.Clone(spare)
		l := spare[:len(m)]
		kept := prune.Keep(l)
		prune.Saved(l)
		for _, r := range l {
			prune.Needs(l, r.P)
		}
		if !slices.Equal(spare, was) {
			t.Errorf("the memory of %v was changed to %x", m, spare)
		}
		stays := slices.Clone(kept)
		soil(prune.Keep(l))
		if !slices.Equal(spare, was) || !slices.Equal(kept, stays) {
			t.Errorf("a result for %v shares memory", m)
		}
		soil(spare)
		if !slices.Equal(kept, stays) {
			t.Errorf("a result for %v shares memory with the table", m)
		}
	}
}

// TestAgain has each call twice, with a list of another capacity, and nil and
// empty lists, which are equivalent.
func TestAgain(t *testing.T) { // P9.1
	for _, m := range tables() {
		l, other := m.table(), slices.Grow(m.table(), 100)
		if !slices.Equal(prune.Keep(l), prune.Keep(other)) || prune.Saved(l) != prune.Saved(other) {
			t.Errorf("the calls of %v differ", m)
		}
	}
	for _, l := range [][]rib.Route{nil, {}, make([]rib.Route, 0, 9)} {
		if len(prune.Keep(l)) != 0 || prune.Saved(l) != 0 || prune.Needs(l, prefix.Prefix{}) {
			t.Errorf("the calls of a list without routes: %x, %d", prune.Keep(l), prune.Saved(l))
		}
	}
}

// callAll has each call: that it ends, that it does not panic, and that it leaves
// the list as it is is all that is promised for what is not a table.
func callAll(t *testing.T, l []rib.Route, ps ...prefix.Prefix) {
	t.Helper()
	was := slices.Clone(l)
	prune.Keep(l)
	prune.Saved(l)
	for _, p := range ps {
		prune.Needs(l, p)
	}
	if !slices.Equal(l, was) {
		t.Error("a call has changed a list")
	}
}

// TestOtherLists has lists that are not tables: all of up to four of some routes,
// in any order, often the same one, among them such as are not valid.
func TestOtherLists(t *testing.T) { // P9.1
	from := []rib.Route{
		{}, via(of("0"), 1), via(of("01"), 1), via(of("01"), 2), via(of("1"), -1), via(of("11"), math.MaxInt),
		via(prefix.Prefix{Len: -1}, 1), via(prefix.Prefix{A: addr.Addr{1, 1}, Len: math.MinInt}, 0),
		via(prefix.Prefix{Len: 129}, 256), via(prefix.Prefix{A: addr.Addr{1 << 63, 1}, Len: math.MaxInt}, math.MinInt),
		via(prefix.Prefix{A: addr.Addr{1, 1}, Len: 1}, 1),
	}
	var longer func(l []rib.Route)
	longer = func(l []rib.Route) {
		callAll(t, l, from[0].P, from[3].P, from[7].P, from[9].P, from[10].P)
		for _, r := range from {
			if len(l) < 4 {
				longer(append(slices.Clone(l), r))
			}
		}
	}
	longer(nil)
}

// TestLongLists are far longer than a table.
func TestLongLists(t *testing.T) { // P9.1
	const many = 200_000
	next := sequence(41)
	var apart, same, up, down, turn, wild []rib.Route
	for i := range many {
		apart = append(apart, via(prefix.Prefix{A: addr.Addr{uint64(i), 0}, Len: 64}, 1))
		same = append(same, rib.Route{Action: i})
		up = append(up, via(prefix.Prefix{Len: i}, i))
		down = append(down, via(prefix.Prefix{Len: many - i}, i))
		turn = append(turn, via(prefix.Prefix{Len: i % 129}, i%2))
		a := addr.Addr{uint64(next(1 << 30)), uint64(next(1 << 30))}
		wild = append(wild, via(prefix.Prefix{A: a, Len: next(400) - 100}, next(3)))
	}
	for _, l := range [][]rib.Route{apart, same, up, down, turn, wild} {
		callAll(t, l, prefix.Prefix{}, of(begins), l[many/2].P)
	}
}
