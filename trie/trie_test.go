package trie_test

import (
	"fmt"
	"math"
	"slices"
	"strings"
	"testing"

	"pigeonhole/addr"
	"pigeonhole/api"
	"pigeonhole/prefix"
	"pigeonhole/rib"
	"pigeonhole/trie"
)

const (
	v4   = 32
	v6   = 128
	most = 256 // routes of a trie
	ones = ^uint64(0)
)

// noFamilies are numbers that are none. Among them are those that a narrower
// integer, or one without a sign, would take for one.
var noFamilies = []int{
	0, 1, 4, 6, 31, 33, 64, 96, 127, 129, 256, -1, -32, -128, 256 + 32, 256 + 128,
	1<<16 + 32, 1<<32 + 32, 1<<32 + 128, -1<<32 + 32, math.MaxInt, math.MinInt, math.MinInt + 32,
}

// noActions are numbers that no route has. Among them are those that a narrower
// integer would take for one.
var noActions = []int{
	0, -1, -2, -255, -256, 256, 257, 511, 512, 1<<16 + 1, 1<<32 + 1, -1<<32 + 1,
	math.MaxInt32, math.MinInt32, math.MaxInt, math.MinInt, math.MinInt + 1,
}

// noLengths are numbers that no prefix has.
var noLengths = []int{
	-1, -2, -8, -128, -256, -1<<32 + 8, math.MinInt, math.MinInt + 8,
	129, 130, 136, 255, 256, 256 + 8, 1<<32 + 8, math.MaxInt - 1, math.MaxInt,
}

// place is a family, and how many bits come before those in which the prefixes
// of a world differ.
type place struct{ w, base int }

// places are at both edges of an address of each family, at that between the
// words of an address, and within a word.
var places = []place{
	{v4, 0}, {v4, 8}, {v4, 28}, {v4, 29},
	{v6, 0}, {v6, 29}, {v6, 30}, {v6, 31}, {v6, 62}, {v6, 63}, {v6, 64}, {v6, 100}, {v6, 125},
}

// sequence makes numbers without a pattern, always the same ones.
func sequence(seed uint64) func(below int) int {
	x := seed
	return func(below int) int {
		x = x*6364136223846793005 + 1442695040888963407
		return int(x >> 33 % uint64(below))
	}
}

// pattern is what all prefixes of these tests begin with.
func pattern(n int) addr.Addr {
	return addr.Cut(addr.Addr{0x5a01020304050607, 0x70f1f2f3f4f5f6f7}, n)
}

// number has an address's bits behind a base be those of a number.
func number(base, n, v int) addr.Addr {
	a := pattern(base)
	for k := range n {
		a = addr.With(a, base+k, v>>(n-1-k)&1 == 1)
	}
	return a
}

// world are all prefixes that have at most so many bits behind a base: many of
// them cover one another.
func world(base, depth int) []prefix.Prefix {
	var l []prefix.Prefix
	for n := range depth + 1 {
		for v := range 1 << n {
			l = append(l, prefix.Prefix{A: number(base, n, v), Len: base + n})
		}
	}
	return l
}

// spots are addresses in and around a world, and such as are not of V4.
func spots(base, depth int) []addr.Addr {
	l := []addr.Addr{{}, {ones, ones}, {0xffffffff00000000, 0}, addr.With(pattern(base), base-1, !addr.Bit(pattern(base), base-1))}
	for v := range 1 << depth {
		a := number(base, depth, v)
		l = append(l, a, addr.Or(a, addr.Not(addr.Mask(base+depth))), addr.Or(a, addr.Addr{0, 1}))
	}
	return l
}

// strange are prefixes that are not valid in a family: with lengths that no
// prefix has, with bits behind their length, and longer than the family allows.
func strange(c place) []prefix.Prefix {
	a := number(c.base, 3, 5)
	var l []prefix.Prefix
	for _, n := range noLengths {
		l = append(l, prefix.Prefix{A: a, Len: n}, prefix.Prefix{Len: n})
	}
	for n := range min(3, c.w-c.base) {
		l = append(l, prefix.Prefix{A: addr.With(a, c.base+n, true), Len: c.base + n})
		l = append(l, prefix.Prefix{A: addr.Or(number(c.base, n, 1), addr.Addr{0, 1}), Len: c.base + n})
	}
	l = append(l, prefix.Prefix{A: addr.Addr{0, 1}}, prefix.Prefix{A: addr.Addr{1 << 63, 0}})
	if c.w == v4 {
		for _, n := range []int{33, 34, 63, 64, 65, 127, 128} {
			l = append(l, prefix.Prefix{Len: n}, prefix.Prefix{A: pattern(n), Len: n})
		}
		l = append(l, prefix.Prefix{A: addr.With(pattern(32), 32, true), Len: 32}, prefix.Prefix{A: addr.Addr{1 << 31, 0}, Len: 32})
	}
	return l
}

// near are prefixes that are valid but not of a world: shorter ones that cover
// its base, and longer ones.
func near(c place) []prefix.Prefix {
	return []prefix.Prefix{
		{}, prefix.Make(pattern(c.w), c.base/2), prefix.Make(pattern(c.w), c.base-1),
		prefix.Make(number(c.base, 3, 2), c.w), prefix.Make(pattern(c.w), c.w),
	}
}

// digits is an address as 128 binary digits, bit 0 first.
func digits(a addr.Addr) string { return fmt.Sprintf("%064b%064b", a[0], a[1]) }

// valid is the definition of layer 2, on digits.
func valid(w int, p prefix.Prefix) bool {
	return 0 <= p.Len && p.Len <= w && strings.Trim(digits(p.A)[p.Len:], "0") == ""
}

// wantNodes is the chapter's own definition: all that the texts of the prefixes
// begin with, each counted once.
func wantNodes(l []rib.Route) int {
	nodes := map[string]bool{"": true}
	for _, r := range l {
		s := digits(r.P.A)
		for n := range r.P.Len + 1 {
			nodes[s[:n]] = true
		}
	}
	return len(nodes)
}

// some is the table of those prefixes whose bits are set in a number. Each
// route has an action of its own.
func some(from []prefix.Prefix, set int) []rib.Route {
	var l []rib.Route
	for i, p := range from {
		if set>>i&1 == 1 {
			l = rib.Put(l, rib.Route{P: p, Action: 255 - i})
		}
	}
	return l
}

// empty is a trie without routes.
func empty(t *testing.T, w int) *trie.Trie {
	t.Helper()
	x, e := trie.New(w)
	if x == nil || e != api.OK {
		t.Fatalf("New(%d): %v, %v", w, x, e)
	}
	return x
}

// holding is a trie into which routes are put from the first one on.
func holding(t *testing.T, w int, l []rib.Route) *trie.Trie {
	t.Helper()
	x := empty(t, w)
	for _, r := range l {
		put(t, x, r, false)
	}
	return x
}

func put(t *testing.T, x *trie.Trie, r rib.Route, replaces bool) {
	t.Helper()
	if was, e := x.Put(r); was != replaces || e != api.OK {
		t.Fatalf("Put(%x): %t, %v", r, was, e)
	}
}

func drop(t *testing.T, x *trie.Trie, p prefix.Prefix) {
	t.Helper()
	if e := x.Drop(p); e != api.OK {
		t.Fatalf("Drop(%x/%d): %v", p.A, p.Len, e)
	}
}

// full is a table of 256 routes of V4, none of which covers another one.
func full() []rib.Route {
	var l []rib.Route
	for v := range most {
		l = append(l, rib.Route{P: prefix.Prefix{A: addr.Addr{uint64(v) << 56, 0}, Len: 8}, Action: v%255 + 1})
	}
	return l
}

// deep is a table of 256 routes with the greatest length of a family, which
// part at their first bits.
func deep(w int) []rib.Route {
	var l []rib.Route
	for v := range most {
		a := addr.Or(addr.Addr{uint64(v) << 56, 0}, addr.With(addr.Addr{}, w-1, true))
		l = append(l, rib.Route{P: prefix.Prefix{A: a, Len: w}, Action: v%255 + 1})
	}
	return l
}

// tower is a table of prefixes of all lengths from 0 on, each of which covers
// the next one.
func tower(w int) []rib.Route {
	var l []rib.Route
	for n := range w + 1 {
		l = append(l, rib.Route{P: prefix.Prefix{A: pattern(n), Len: n}, Action: n + 1})
	}
	return l
}

// random is a table without a pattern, of which many routes cover one another:
// each prefix goes on from where an earlier one ends, or ends earlier.
func random(next func(below int) int, w, many int) []rib.Route {
	ps := []prefix.Prefix{{}}
	var l []rib.Route
	for range many {
		p := ps[next(len(ps))]
		a := p.A
		n := min(p.Len+next(7), w)
		for k := p.Len; k < n; k++ {
			a = addr.With(a, k, next(2) == 1)
		}
		if next(8) == 0 {
			n = p.Len / 2
		}
		ps = append(ps, prefix.Make(a, n))
		l = rib.Put(l, rib.Route{P: prefix.Make(a, n), Action: next(255) + 1})
	}
	return l
}

// tables are tables of a family, the greatest ones among them.
func tables(w int) [][]rib.Route {
	last := prefix.Make(addr.Not(addr.Addr{}), w)
	l := [][]rib.Route{
		nil, full(), deep(w), tower(w), tower(w)[3:20],
		{{Action: 1}}, {{P: prefix.Prefix{Len: w}, Action: 255}}, {{P: last, Action: 7}},
	}
	next := sequence(11)
	for i := range 12 {
		l = append(l, random(next, w, i*20))
	}
	return l
}

// asked are prefixes that may stand for those of a table: its own ones, their
// neighbors, shorter and longer ones, and some that are not valid.
func asked(w int, l []rib.Route) []prefix.Prefix {
	ps := slices.Concat(strange(place{w, 8}), near(place{w, 8}))
	for i, r := range l {
		if i%7 != 0 && len(l) > 40 {
			continue
		}
		p := r.P
		ps = append(ps, p, prefix.Make(p.A, p.Len-1), prefix.Make(p.A, p.Len+1), prefix.Make(addr.Next(p.A), p.Len))
		ps = append(ps, prefix.Make(addr.With(p.A, p.Len, true), p.Len+1), prefix.Prefix{A: p.A, Len: p.Len - 256})
		ps = append(ps, prefix.Prefix{A: addr.Addr{p.A[1], p.A[0]}, Len: p.Len}, prefix.Make(p.A, w))
	}
	return ps
}

// walked are the routes of a sequence.
func walked(walk func(yield func(r rib.Route) bool)) []rib.Route {
	var l []rib.Route
	for r := range walk {
		l = append(l, r)
	}
	return l
}

// wantWalk is the chapter's own definition, on digits.
func wantWalk(w int, l []rib.Route, p prefix.Prefix) []rib.Route {
	if !valid(w, p) {
		return nil
	}
	s := digits(p.A)[:p.Len]
	return slices.DeleteFunc(slices.Clone(l), func(r rib.Route) bool {
		return r.P.Len < p.Len || digits(r.P.A)[:p.Len] != s
	})
}

// checkWhole holds what a trie tells of itself against a table.
func checkWhole(t *testing.T, x *trie.Trie, w int, l []rib.Route) {
	t.Helper()
	if x.Width() != w || x.Len() != len(l) || x.Nodes() != wantNodes(l) {
		t.Errorf("of %x: Width %d, Len %d, Nodes %d, not %d", l, x.Width(), x.Len(), x.Nodes(), wantNodes(l))
	}
	if got := x.Table(); !slices.Equal(got, l) || !rib.Table(w, got) {
		t.Errorf("Table of %x: %x", l, got)
	}
	if got := x.Chain(); got != rib.Chain(l) {
		t.Errorf("Chain of %x: %d, not %d", l, got, rib.Chain(l))
	}
}

// checkPrefixes holds what a trie tells of prefixes against package rib.
func checkPrefixes(t *testing.T, x *trie.Trie, w int, l []rib.Route, ps []prefix.Prefix) {
	t.Helper()
	for _, p := range ps {
		var own, cover rib.Route
		found, covered := false, false
		if valid(w, p) {
			own, found = rib.Find(l, p)
			cover, covered = rib.Cover(l, p)
		}
		if got, ok := x.Get(p); got != own || ok != found {
			t.Errorf("Get(%x/%d) of %x: %x, %t", p.A, p.Len, l, got, ok)
		}
		if got, ok := x.Cover(p); got != cover || ok != covered {
			t.Errorf("Cover(%x/%d) of %x: %x, %t", p.A, p.Len, l, got, ok)
		}
		if got := walked(x.Walk(p)); !slices.Equal(got, wantWalk(w, l, p)) {
			t.Errorf("Walk(%x/%d) of %x: %x", p.A, p.Len, l, got)
		}
	}
}

// checkAddresses holds what a trie tells of addresses against package rib.
func checkAddresses(t *testing.T, x *trie.Trie, l []rib.Route, as []addr.Addr) {
	t.Helper()
	for _, a := range as {
		want, found := rib.Best(l, a)
		if got, ok := x.Best(a); got != want || ok != found {
			t.Errorf("Best(%x) of %x: %x, %t", a, l, got, ok)
		}
	}
}

// checkAll holds everything against a table.
func checkAll(t *testing.T, x *trie.Trie, w int, l []rib.Route) {
	t.Helper()
	checkWhole(t, x, w, l)
	ps := asked(w, l)
	checkPrefixes(t, x, w, l, ps)
	as := spots(8, 3)
	for _, p := range ps {
		as = append(as, p.A, addr.Or(p.A, addr.Not(addr.Mask(p.Len))), addr.Next(p.A))
	}
	checkAddresses(t, x, l, as)
}

func TestNew(t *testing.T) { // P7.1
	for _, w := range []int{v4, v6} {
		x := empty(t, w)
		if x.Width() != w || x.Len() != 0 || x.Nodes() != 1 || len(x.Table()) != 0 || x.Chain() != 0 {
			t.Errorf("New(%d): Width %d, Len %d, Nodes %d", w, x.Width(), x.Len(), x.Nodes())
		}
		checkAll(t, x, w, nil)
	}
	for _, w := range noFamilies {
		if x, e := trie.New(w); x != nil || e != api.ErrBad {
			t.Errorf("New(%d): %v, %v", w, x, e)
		}
	}
}

func TestPut(t *testing.T) { // P7.1
	for _, w := range []int{v4, v6} {
		for _, l := range tables(w) {
			x := empty(t, w)
			var so []rib.Route
			for i, r := range l {
				put(t, x, r, false)
				if so = append(so, r); i%16 == 0 {
					checkWhole(t, x, w, so)
				}
			}
			checkAll(t, x, w, l)
		}
	}
}

// TestPutInAnyOrder puts and drops the same routes in orders without a pattern.
func TestPutInAnyOrder(t *testing.T) { // P7.1, P7.3
	next := sequence(29)
	for i := range 30 {
		w := []int{v4, v6}[i%2]
		want := random(next, w, 100)
		order := slices.Clone(want)
		for i := range order {
			j := next(i + 1)
			order[i], order[j] = order[j], order[i]
		}
		x := holding(t, w, order)
		checkAll(t, x, w, want)
		for _, r := range order {
			drop(t, x, r.P)
			want = rib.Drop(want, r.P)
			checkWhole(t, x, w, want)
		}
		checkAll(t, x, w, nil)
	}
}

// TestPutReplaces has each action, greater and less than the one before it, and
// also the same one again.
func TestPutReplaces(t *testing.T) { // P7.1
	for _, w := range []int{v4, v6} {
		for _, l := range tables(w) {
			x := holding(t, w, l)
			for i, r := range l {
				for _, action := range []int{r.Action, 255, 1, 1} {
					put(t, x, rib.Route{P: r.P, Action: action}, true)
					if got, ok := x.Get(r.P); !ok || got != (rib.Route{P: r.P, Action: action}) {
						t.Errorf("Get after Put of %d: %x, %t", action, got, ok)
					}
				}
				put(t, x, r, true)
				if i%40 == 0 {
					checkWhole(t, x, w, l)
				}
			}
			checkAll(t, x, w, l)
		}
	}
}

func TestPutOfAllActions(t *testing.T) { // P7.1
	for _, c := range places {
		x := empty(t, c.w)
		p := prefix.Make(number(c.base, 3, 5), min(c.base+3, c.w))
		for action := 1; action <= 255; action++ {
			put(t, x, rib.Route{P: p, Action: action}, action > 1)
			checkWhole(t, x, c.w, []rib.Route{{P: p, Action: action}})
		}
	}
}

// badRoutes are routes that are not valid in a family.
func badRoutes(c place) []rib.Route {
	var l []rib.Route
	for _, p := range strange(c) {
		l = append(l, rib.Route{P: p, Action: 1}, rib.Route{P: p, Action: 255}, rib.Route{P: p})
	}
	for _, p := range slices.Concat(world(c.base, 2), near(c)) {
		for _, action := range noActions {
			l = append(l, rib.Route{P: prefix.Make(p.A, min(p.Len, c.w)), Action: action})
		}
	}
	return l
}

func TestPutBad(t *testing.T) { // P7.1
	for _, c := range places {
		ps := world(c.base, 2)
		for set := range 1 << len(ps) {
			l := some(ps, set)
			if set%37 != 0 && set != 1<<len(ps)-1 || !rib.Table(c.w, l) {
				continue
			}
			x := holding(t, c.w, l)
			for _, r := range badRoutes(c) {
				if was, e := x.Put(r); was || e != api.ErrBad {
					t.Errorf("Put(%x) in %d: %t, %v", r, c.w, was, e)
				}
			}
			checkAll(t, x, c.w, l)
		}
	}
}

// TestPutOfV6 has routes that are valid in one family alone.
func TestPutOfV6(t *testing.T) { // P7.1
	l := tower(v6)
	x, y := empty(t, v4), empty(t, v6)
	for n, r := range l {
		was, e := x.Put(r)
		if n <= v4 && (was || e != api.OK) || n > v4 && (was || e != api.ErrBad) {
			t.Errorf("Put of %d bits in V4: %t, %v", n, was, e)
		}
		put(t, y, r, false)
	}
	checkAll(t, x, v4, l[:v4+1])
	checkAll(t, y, v6, l)
}

// others are routes of prefixes that full and deep do not have.
func others(w int) []rib.Route {
	var l []rib.Route
	for v := range 40 {
		a := addr.Addr{uint64(v) << 58, 0}
		l = append(l, rib.Route{P: prefix.Prefix{A: addr.Cut(a, 6), Len: 6}, Action: 9})
		l = append(l, rib.Route{P: prefix.Prefix{A: a, Len: w}, Action: 9}, rib.Route{P: prefix.Prefix{A: a, Len: 31}, Action: 9})
	}
	return append(l, rib.Route{Action: 3})
}

// TestPutMany has 256 routes: no more can be put, but each one be replaced.
func TestPutMany(t *testing.T) { // P7.1
	for _, w := range []int{v4, v6} {
		for _, l := range [][]rib.Route{full(), deep(w), random(sequence(5), w, 600)[:most]} {
			x := holding(t, w, l)
			for _, r := range others(w) {
				if _, there := rib.Find(l, r.P); there {
					continue
				}
				if was, e := x.Put(r); was || e != api.ErrMany {
					t.Errorf("Put of one more: %t, %v", was, e)
				}
				if x.Len() != most || x.Nodes() != wantNodes(l) {
					t.Errorf("after Put of one more: Len %d, Nodes %d", x.Len(), x.Nodes())
				}
			}
			checkAll(t, x, w, l)
			for _, r := range l {
				put(t, x, rib.Route{P: r.P, Action: 256 - r.Action}, true)
				put(t, x, r, true)
			}
			for _, r := range badRoutes(place{w, 8}) {
				if was, e := x.Put(r); was || e != api.ErrBad {
					t.Errorf("Put(%x) in a full trie: %t, %v", r, was, e)
				}
			}
			checkAll(t, x, w, l)
		}
	}
}

// TestPutManyAfterDrop has room for as many routes as were dropped.
func TestPutManyAfterDrop(t *testing.T) { // P7.1
	for _, w := range []int{v4, v6} {
		l := full()
		x := holding(t, w, l)
		for i, r := range others(w) {
			if _, there := rib.Find(l, r.P); there {
				continue
			}
			gone := l[i%most].P
			drop(t, x, gone)
			l = rib.Put(rib.Drop(l, gone), r)
			put(t, x, r, false)
			if was, e := x.Put(rib.Route{P: gone, Action: 1}); was || e != api.ErrMany {
				t.Errorf("Put into 256 routes: %t, %v", was, e)
			}
			checkWhole(t, x, w, l)
		}
		checkAll(t, x, w, l)
	}
}

// TestDrop has errors for prefixes that are not there, those of nodes among
// them, and for such as are not valid; they change nothing.
func TestDrop(t *testing.T) { // P7.1
	for _, w := range []int{v4, v6} {
		for _, l := range tables(w) {
			x := holding(t, w, l)
			for _, p := range asked(w, l) {
				r, there := rib.Find(l, p)
				want := api.OK
				if !valid(w, p) {
					want = api.ErrBad
				} else if !there {
					want = api.ErrAbsent
				}
				if e := x.Drop(p); e != want {
					t.Errorf("Drop(%x/%d): %v, not %v", p.A, p.Len, e, want)
				}
				if e := x.Drop(p); want == api.OK && e != api.ErrAbsent {
					t.Errorf("Drop(%x/%d) again: %v", p.A, p.Len, e)
				}
				if want == api.OK {
					put(t, x, r, false)
				}
			}
			checkAll(t, x, w, l)
		}
	}
}

func TestDropFromEmpty(t *testing.T) { // P7.1, P7.3
	for _, w := range []int{v4, v6} {
		x := empty(t, w)
		for n := -1; n <= v6+1; n++ {
			want := api.ErrAbsent
			if n < 0 || n > w {
				want = api.ErrBad
			}
			if e := x.Drop(prefix.Prefix{Len: n}); e != want {
				t.Errorf("Drop of %d bits: %v", n, e)
			}
		}
		checkAll(t, x, w, nil)
	}
}

// TestDropFromTower drops each of a tower's routes alone, and all of them from
// either end: only the last one leads to nodes that go with it.
func TestDropFromTower(t *testing.T) { // P7.1, P7.3
	for _, w := range []int{v4, v6} {
		l := tower(w)
		x := holding(t, w, l)
		for n, r := range l {
			drop(t, x, r.P)
			if want := w + 1; n < w && x.Nodes() != want || n == w && x.Nodes() != want-1 {
				t.Errorf("Nodes without %d bits: %d", n, x.Nodes())
			}
			checkWhole(t, x, w, rib.Drop(l, r.P))
			put(t, x, r, false)
		}
		for n := w; n >= 0; n-- {
			drop(t, x, l[n].P)
			if x.Nodes() != max(n, 1) || x.Len() != n {
				t.Errorf("below %d bits: Len %d, Nodes %d", n, x.Len(), x.Nodes())
			}
		}
		x = holding(t, w, l)
		for n, r := range l {
			drop(t, x, r.P)
			checkWhole(t, x, w, l[n+1:])
		}
		checkAll(t, x, w, nil)
	}
}

// TestDropAll has one node at the end, however many there were, and again and
// again.
func TestDropAll(t *testing.T) { // P7.3
	for _, w := range []int{v4, v6} {
		x := empty(t, w)
		for _, l := range tables(w) {
			for _, r := range l {
				put(t, x, r, false)
			}
			checkWhole(t, x, w, l)
			for _, r := range l {
				drop(t, x, r.P)
			}
			if x.Nodes() != 1 || x.Len() != 0 || len(x.Table()) != 0 {
				t.Errorf("without routes: Len %d, Nodes %d", x.Len(), x.Nodes())
			}
			checkAll(t, x, w, nil)
		}
	}
}

func TestNodes(t *testing.T) { // P7.1
	for n := range v6 + 1 {
		x := holding(t, v6, []rib.Route{{P: prefix.Prefix{A: pattern(n), Len: n}, Action: 1}})
		if x.Nodes() != n+1 {
			t.Errorf("Nodes of %d bits: %d", n, x.Nodes())
		}
		drop(t, x, prefix.Prefix{A: pattern(n), Len: n})
		if x.Nodes() != 1 {
			t.Errorf("Nodes after %d bits: %d", n, x.Nodes())
		}
	}
	if got := holding(t, v4, full()).Nodes(); got != 511 {
		t.Errorf("Nodes of 256 routes: %d", got)
	}
	if got := holding(t, v6, deep(v6)).Nodes(); got != 511+256*120 {
		t.Errorf("Nodes of 256 routes of 128 bits: %d", got)
	}
}

// TestAllTables has all tables of a small world, each made by Puts from the
// shortest prefix on, and each change of one route that can be made to it.
func TestAllTables(t *testing.T) { // P7.1, P7.2, P7.3
	for _, c := range places {
		ps := slices.DeleteFunc(world(c.base, 2), func(p prefix.Prefix) bool { return p.Len > c.w })
		ask := slices.Concat(world(c.base, 3), near(c), strange(c))
		as := spots(c.base, 3)
		for set := range 1 << len(ps) {
			x, l := empty(t, c.w), some(ps, set)
			for i, p := range ps {
				if set>>i&1 == 1 {
					put(t, x, rib.Route{P: p, Action: 255 - i}, false)
				}
			}
			checkWhole(t, x, c.w, l)
			checkPrefixes(t, x, c.w, l, ask)
			checkAddresses(t, x, l, as)
			for i, p := range ps {
				checkChange(t, x, c.w, l, rib.Route{P: p, Action: 255 - i})
			}
		}
	}
}

// checkChange takes a route out of a trie and puts it back, or the other way
// round.
func checkChange(t *testing.T, x *trie.Trie, w int, l []rib.Route, r rib.Route) {
	t.Helper()
	if _, there := rib.Find(l, r.P); there {
		drop(t, x, r.P)
		checkWhole(t, x, w, rib.Drop(l, r.P))
		put(t, x, r, false)
	} else {
		put(t, x, r, false)
		checkWhole(t, x, w, rib.Put(l, r))
		drop(t, x, r.P)
	}
	checkWhole(t, x, w, l)
}

// TestManyTables has a part of the tables of a greater world.
func TestManyTables(t *testing.T) { // P7.1, P7.2, P7.3
	for _, c := range places {
		ps := slices.DeleteFunc(world(c.base, 3), func(p prefix.Prefix) bool { return p.Len > c.w })
		ask := slices.Concat(ps, near(c))
		as := spots(c.base, 3)
		for set := 0; set < 1<<len(ps); set += 113 {
			l := some(ps, set)
			x := holding(t, c.w, l)
			checkWhole(t, x, c.w, l)
			checkPrefixes(t, x, c.w, l, ask)
			checkAddresses(t, x, l, as)
		}
	}
}

// TestManyChanges has Puts and Drops without a pattern, of few prefixes, so that
// many are of one that is there; some are not valid.
func TestManyChanges(t *testing.T) { // P7.1, P7.3
	for i, many := range []int{4, 30, 300, 600} {
		for _, w := range []int{v4, v6} {
			next := sequence(uint64(41 + i))
			ps := strange(place{w, 8})[:4]
			for _, r := range random(next, w, many) {
				ps = append(ps, r.P)
			}
			x := empty(t, w)
			var l []rib.Route
			for step := range 3000 {
				p := ps[next(len(ps))]
				if next(5) < 3 {
					l = checkPut(t, x, w, l, rib.Route{P: p, Action: next(257)})
				} else {
					l = checkDrop(t, x, w, l, p)
				}
				if step%100 == 0 {
					checkWhole(t, x, w, l)
				}
			}
			checkAll(t, x, w, l)
		}
	}
}

// checkPut is the table after a Put, which must answer as the chapter says.
func checkPut(t *testing.T, x *trie.Trie, w int, l []rib.Route, r rib.Route) []rib.Route {
	t.Helper()
	_, there := rib.Find(l, r.P)
	want := api.OK
	if !rib.Right(w, r) {
		want, there = api.ErrBad, false
	} else if !there && len(l) == most {
		want = api.ErrMany
	}
	if was, e := x.Put(r); was != there || e != want {
		t.Fatalf("Put(%x) to %d routes: %t, %v, not %v", r, len(l), was, e, want)
	}
	if want != api.OK {
		return l
	}
	return rib.Put(l, r)
}

// checkDrop is the table after a Drop, which must answer as the chapter says.
func checkDrop(t *testing.T, x *trie.Trie, w int, l []rib.Route, p prefix.Prefix) []rib.Route {
	t.Helper()
	want := api.OK
	if !valid(w, p) {
		want = api.ErrBad
	} else if _, there := rib.Find(l, p); !there {
		want = api.ErrAbsent
	}
	if e := x.Drop(p); e != want {
		t.Fatalf("Drop(%x/%d): %v, not %v", p.A, p.Len, e, want)
	}
	if want != api.OK {
		return l
	}
	return rib.Drop(l, p)
}

// TestBestAtEachBit turns one bit of an address in a tower, so that it leaves
// the prefixes that are longer.
func TestBestAtEachBit(t *testing.T) { // P7.2
	for _, w := range []int{v4, v6} {
		l := tower(w)
		x := holding(t, w, l)
		for k := range v6 {
			turned := addr.With(pattern(v6), k, !addr.Bit(pattern(v6), k))
			want := l[min(k, w)]
			if got, ok := x.Best(turned); got != want || !ok {
				t.Errorf("Best in %d with bit %d turned: %x, %t", w, k, got, ok)
			}
		}
		drop(t, x, prefix.Prefix{})
		if got, ok := x.Best(addr.Not(pattern(v6))); got != (rib.Route{}) || ok {
			t.Errorf("Best of none: %x, %t", got, ok)
		}
	}
}

func TestCoverInTower(t *testing.T) { // P7.2
	for _, w := range []int{v4, v6} {
		l := tower(w)
		x := holding(t, w, l)
		for n, r := range l {
			want, found := rib.Route{}, n > 0
			if found {
				want = l[n-1]
			}
			if got, ok := x.Cover(r.P); got != want || ok != found {
				t.Errorf("Cover of %d bits: %x, %t", n, got, ok)
			}
			if got := walked(x.Walk(r.P)); !slices.Equal(got, l[n:]) {
				t.Errorf("Walk of %d bits: %d routes", n, len(got))
			}
		}
	}
}

// TestWalkEnds has yield return false at each of the routes: it must not be
// called any more.
func TestWalkEnds(t *testing.T) { // P7.2
	for _, w := range []int{v4, v6} {
		for _, l := range tables(w) {
			x := holding(t, w, l)
			for _, p := range []prefix.Prefix{{}, prefix.Make(pattern(w), 2), {Len: 1}} {
				want := wantWalk(w, l, p)
				for end := range want {
					var got []rib.Route
					x.Walk(p)(func(r rib.Route) bool {
						got = append(got, r)
						return len(got) <= end
					})
					if !slices.Equal(got, want[:end+1]) {
						t.Errorf("Walk that ends at %d of %d: %x", end, len(want), got)
					}
				}
			}
			checkWhole(t, x, w, l)
		}
	}
}

func TestWalkOfNothing(t *testing.T) { // P7.2
	for _, c := range places {
		x := holding(t, c.w, random(sequence(7), c.w, 100))
		for _, p := range strange(c) {
			walk := x.Walk(p)
			if walk == nil {
				t.Fatalf("Walk(%x/%d) is nil", p.A, p.Len)
			}
			walk(func(r rib.Route) bool {
				t.Errorf("Walk(%x/%d): %x", p.A, p.Len, r)
				return true
			})
		}
		for range empty(t, c.w).Walk(prefix.Prefix{}) {
			t.Error("Walk of no routes")
		}
	}
}

func TestWalkWithoutYield(t *testing.T) { // P7.2
	l := random(sequence(23), v4, 60)
	x := holding(t, v4, l)
	walk := x.Walk(prefix.Prefix{})
	walk(nil)
	x.Walk(prefix.Prefix{Len: -1})(nil)
	if !slices.Equal(walked(walk), l) {
		t.Errorf("Walk after a nil yield: %x", walked(walk))
	}
	checkWhole(t, x, v4, l)
}

// TestWalkAgain visits a sequence several times, also within itself.
func TestWalkAgain(t *testing.T) { // P7.2
	l := random(sequence(13), v6, 60)
	walk := holding(t, v6, l).Walk(prefix.Prefix{})
	i := 0
	for r := range walk {
		if r != l[i] || !slices.Equal(walked(walk), l) {
			t.Errorf("Walk within Walk, at %d: %x", i, r)
		}
		i++
	}
	if i != len(l) || !slices.Equal(walked(walk), l) {
		t.Errorf("Walk again: %d of %d routes", i, len(l))
	}
}

// TestWalkStays changes the trie after the call: what the call returned depends
// on what was called before it, and on nothing else.
func TestWalkStays(t *testing.T) { // P7.2
	for _, w := range []int{v4, v6} {
		for _, l := range tables(w) {
			x := holding(t, w, l)
			walk, table := x.Walk(prefix.Prefix{}), x.Table()
			for i, r := range l {
				if i%2 == 0 {
					drop(t, x, r.P)
				} else {
					put(t, x, rib.Route{P: r.P, Action: 256 - r.Action}, true)
				}
			}
			x.Put(rib.Route{P: prefix.Prefix{A: addr.Addr{1 << 62, 0}, Len: 3}, Action: 1})
			if !slices.Equal(walked(walk), l) || !slices.Equal(table, l) {
				t.Errorf("a change of the trie has changed what Walk or Table returned of %x", l)
			}
		}
	}
}

// TestWalkAndChange changes the trie while it is visited.
func TestWalkAndChange(t *testing.T) { // P7.2
	for _, w := range []int{v4, v6} {
		for _, l := range tables(w) {
			x := holding(t, w, l)
			var got, left []rib.Route
			for r := range x.Walk(prefix.Prefix{}) {
				got = append(got, r)
				drop(t, x, r.P)
				if len(got)%3 == 0 && r.P.Len < w {
					other := rib.Route{P: prefix.Make(addr.Not(r.P.A), w), Action: 4}
					left = checkPut(t, x, w, x.Table(), other)
				}
			}
			if !slices.Equal(got, l) {
				t.Errorf("Walk while the trie is changed: %x, not %x", got, l)
			}
			for _, r := range left {
				x.Drop(r.P)
			}
			if x.Len() == 0 && x.Nodes() != 1 {
				t.Errorf("Nodes: %d", x.Nodes())
			}
		}
	}
}

// TestResultsAreNew changes what Table returned, with its spare memory.
func TestResultsAreNew(t *testing.T) { // P7.2
	for _, w := range []int{v4, v6} {
		for _, l := range tables(w) {
			x := holding(t, w, l)
			walk, other, spoiled := x.Walk(prefix.Prefix{}), x.Table(), x.Table()
			for i := range spoiled[:cap(spoiled)] {
				spoiled[:cap(spoiled)][i] = rib.Route{Action: -1}
			}
			if !slices.Equal(other, l) || !slices.Equal(walked(walk), l) {
				t.Error("results share memory")
			}
			checkWhole(t, x, w, l)
		}
	}
}

// TestTriesAreApart changes one of two tries.
func TestTriesAreApart(t *testing.T) { // P7.1
	l := random(sequence(17), v4, 80)
	x, y, z := holding(t, v4, l), holding(t, v4, l), empty(t, v6)
	for _, r := range l {
		drop(t, x, r.P)
	}
	checkAll(t, x, v4, nil)
	checkAll(t, y, v4, l)
	checkAll(t, z, v6, nil)
}

func TestExample(t *testing.T) { // example 1
	p := prefix.Prefix{A: addr.Addr{0x0a << 56, 0}, Len: 8}
	x := holding(t, v4, []rib.Route{{P: p, Action: 1}})
	if x.Nodes() != 9 {
		t.Errorf("Nodes: %d", x.Nodes())
	}
}

// TestByHand has expected results written out, apart from those of package rib.
func TestByHand(t *testing.T) { // P7.1, P7.2
	four := func(a uint64, n, action int) rib.Route {
		return rib.Route{P: prefix.Prefix{A: addr.Addr{a << 32, 0}, Len: n}, Action: action}
	}
	all, ten, one, two := four(0, 0, 1), four(0x0a000000, 8, 2), four(0x0a010000, 16, 3), four(0xc0000000, 2, 4)
	x := holding(t, v4, []rib.Route{two, one, all, ten})
	if got := x.Table(); !slices.Equal(got, []rib.Route{all, ten, one, two}) {
		t.Errorf("Table: %x", got)
	}
	if x.Len() != 4 || x.Nodes() != 19 || x.Chain() != 3 || x.Width() != 32 {
		t.Errorf("Len %d, Nodes %d, Chain %d", x.Len(), x.Nodes(), x.Chain())
	}
	for a, want := range map[uint64]rib.Route{0x0a010203: one, 0x0a020304: ten, 0x0b000000: all, 0xffffffff: two} {
		if got, ok := x.Best(addr.Addr{a << 32, 0}); got != want || !ok {
			t.Errorf("Best(%x): %x, %t", a, got, ok)
		}
	}
	if got, ok := x.Cover(one.P); got != ten || !ok {
		t.Errorf("Cover: %x, %t", got, ok)
	}
	if got := walked(x.Walk(ten.P)); !slices.Equal(got, []rib.Route{ten, one}) {
		t.Errorf("Walk: %x", got)
	}
	drop(t, x, one.P)
	if got, ok := x.Get(one.P); got != (rib.Route{}) || ok || x.Nodes() != 11 {
		t.Errorf("Get after Drop: %x, %t; Nodes %d", got, ok, x.Nodes())
	}
}
