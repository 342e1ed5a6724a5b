package rib_test

import (
	"fmt"
	"math"
	"slices"
	"strings"
	"testing"

	"pigeonhole/addr"
	"pigeonhole/prefix"
	"pigeonhole/rib"
)

const (
	v4   = 32
	v6   = 128
	most = 256 // routes of a table
	ones = ^uint64(0)
)

// noFamilies are numbers that are none. Among them are those that a narrower
// integer, or one without a sign, would take for one.
var noFamilies = []int{
	0, 1, 4, 6, 31, 33, 64, 96, 127, 129, 256, -1, -32, -128, 256 + 32, 256 + 128,
	1<<16 + 32, 1<<32 + 32, 1<<32 + 128, -1<<32 + 32, math.MaxInt, math.MinInt, math.MinInt + 32,
}

// noActions are numbers that no route has. Among them are those that a narrower
// integer would take for one.
var noActions = []int{
	0, -1, -2, -255, -256, 256, 257, 511, 512, 1<<16 + 1, 1<<32 + 1, -1<<32 + 1,
	math.MaxInt32, math.MinInt32, math.MaxInt, math.MinInt, math.MinInt + 1,
}

// noLengths are numbers that no prefix has.
var noLengths = []int{
	-1, -2, -8, -128, -256, -1<<32 + 8, math.MinInt, math.MinInt + 8,
	129, 130, 136, 255, 256, 256 + 8, 1<<32 + 8, math.MaxInt - 1, math.MaxInt,
}

// bases are where the prefixes of world begin: at both edges of an address, at
// those between its words and its families, and within a word.
var bases = []int{0, 8, 29, 30, 31, 62, 63, 64, 100, 125}

// depth is how many bits the prefixes of world have behind their base.
const depth = 3

// sequence makes numbers without a pattern, always the same ones.
func sequence(seed uint64) func() uint64 {
	x := seed
	return func() uint64 {
		x = x*6364136223846793005 + 1442695040888963407
		return x ^ x>>29
	}
}

// pattern is what all prefixes of these tests begin with.
func pattern(n int) addr.Addr {
	return addr.Cut(addr.Addr{0x5a01020304050607, 0x70f1f2f3f4f5f6f7}, n)
}

// number has an address's bits behind a base be those of a number.
func number(base, n, v int) addr.Addr {
	a := pattern(base)
	for k := range n {
		a = addr.With(a, base+k, v>>(n-1-k)&1 == 1)
	}
	return a
}

// world are all prefixes that have at most depth bits behind a base: many of
// them cover one another. They are in order.
func world(base int) []prefix.Prefix {
	var l []prefix.Prefix
	for n := range depth + 1 {
		for v := range 1 << n {
			l = append(l, prefix.Prefix{A: number(base, n, v), Len: base + n})
		}
	}
	slices.SortFunc(l, func(p, q prefix.Prefix) int { return strings.Compare(first(p), first(q)) })
	return l
}

// spots are addresses in and around world: one for each number behind the base,
// with nothing and with ones behind it, and some outside.
func spots(base int) []addr.Addr {
	l := []addr.Addr{{}, {ones, ones}, addr.With(pattern(base), base-1, !addr.Bit(pattern(base), base-1))}
	for v := range 1 << depth {
		a := number(base, depth, v)
		l = append(l, a, addr.Or(a, addr.Not(addr.Mask(base+depth))))
	}
	return l
}

// strange are prefixes that are not valid.
func strange(base int) []prefix.Prefix {
	return append(outside(base), behind(base)...)
}

// outside are prefixes with lengths that no prefix has.
func outside(base int) []prefix.Prefix {
	var l []prefix.Prefix
	for _, n := range noLengths {
		l = append(l, prefix.Prefix{A: number(base, depth, 5), Len: n}, prefix.Prefix{Len: n})
	}
	return l
}

// behind are prefixes with bits behind their length.
func behind(base int) []prefix.Prefix {
	var l []prefix.Prefix
	for n := range depth {
		a := number(base, depth, 5)
		l = append(l, prefix.Prefix{A: addr.With(a, base+n, true), Len: base + n})
		l = append(l, prefix.Prefix{A: addr.Or(a, addr.Addr{0, 1}), Len: base + n})
	}
	return l
}

// near are prefixes that are valid but not of world: shorter ones that cover
// its base, longer ones, and one beside it.
func near(base int) []prefix.Prefix {
	l := []prefix.Prefix{{}, {A: pattern(base / 2), Len: base / 2}, {A: number(base, depth, 2), Len: v6}}
	if base > 0 {
		beside := addr.With(pattern(base), base-1, !addr.Bit(pattern(base), base-1))
		l = append(l, prefix.Prefix{A: beside, Len: base})
	}
	return l
}

// known keeps what digits made: the same addresses are asked for millions of
// times.
var known = map[addr.Addr]string{}

// digits is an address as 128 binary digits, bit 0 first: what the package
// answers is held against this text and not against words.
func digits(a addr.Addr) string {
	s, ok := known[a]
	if !ok {
		s = fmt.Sprintf("%064b%064b", a[0], a[1])
		known[a] = s
	}
	return s
}

// first is what the addresses of a prefix begin with. Sorted as texts, these
// are in the order of a table, as a text comes before those that it begins.
func first(p prefix.Prefix) string { return digits(p.A)[:min(max(p.Len, 0), v6)] }

// valid is the document's own definition.
func valid(w int, p prefix.Prefix) bool {
	return (w == v4 || w == v6) && 0 <= p.Len && p.Len <= w && strings.TrimRight(digits(p.A)[p.Len:], "0") == ""
}

// covers is the document's own definition; the prefix itself does not count.
func covers(p, q prefix.Prefix) bool {
	return p != q && p.Len <= q.Len && strings.HasPrefix(digits(q.A), first(p))
}

// better is the longer one of two routes of which the first one may be none.
func better(best, r rib.Route, found bool) rib.Route {
	if found && best.P.Len > r.P.Len {
		return best
	}
	return r
}

// wantBest is the document's own definition.
func wantBest(l []rib.Route, a addr.Addr) (best rib.Route, found bool) {
	for _, r := range l {
		if strings.HasPrefix(digits(a), first(r.P)) {
			best, found = better(best, r, found), true
		}
	}
	return best, found
}

// wantCover is the document's own definition.
func wantCover(l []rib.Route, p prefix.Prefix) (best rib.Route, found bool) {
	for _, r := range l {
		if covers(r.P, p) {
			best, found = better(best, r, found), true
		}
	}
	return best, found
}

// wantChain is the document's own definition: behind each route, all those that
// it covers are tried as the next one, wherever they are in the table.
func wantChain(l []rib.Route) int {
	lengths := make([]int, len(l))
	var from func(i int) int
	from = func(i int) int {
		if lengths[i] == 0 {
			next := 0
			for j, r := range l {
				if covers(l[i].P, r.P) {
					next = max(next, from(j))
				}
			}
			lengths[i] = next + 1
		}
		return lengths[i]
	}
	longest := 0
	for i := range l {
		longest = max(longest, from(i))
	}
	return longest
}

// kept are the routes for which a condition holds, in order.
func kept(l []rib.Route, holds func(r rib.Route) bool) []rib.Route {
	var k []rib.Route
	for _, r := range l {
		if holds(r) {
			k = append(k, r)
		}
	}
	return k
}

// sorted is a table of routes with different prefixes, in the order that their
// texts have.
func sorted(l []rib.Route) []rib.Route {
	l = slices.Clone(l)
	slices.SortFunc(l, func(x, y rib.Route) int { return strings.Compare(first(x.P), first(y.P)) })
	return l
}

// some is the table of those prefixes whose bits are set in a number. Each
// route has an action of its own.
func some(from []prefix.Prefix, set int) []rib.Route {
	var l []rib.Route
	for i, p := range from {
		if set>>i&1 == 1 {
			l = append(l, rib.Route{P: p, Action: 255 - i})
		}
	}
	return l
}

// random is a table of up to so many routes without a pattern, of which many
// cover one another: each prefix goes on from where an earlier one ends, or
// ends earlier.
func random(next func() uint64, w, many int) []rib.Route {
	byText := map[string]rib.Route{}
	ps := []prefix.Prefix{{}}
	for range many {
		p := ps[next()>>33%uint64(len(ps))]
		n := min(p.Len+int(next()>>33%6), w)
		p = prefix.Make(addr.Or(p.A, addr.And(addr.Addr{next(), next()}, addr.Not(addr.Mask(p.Len)))), n)
		if next()>>33%8 == 0 {
			p = prefix.Make(p.A, p.Len/2)
		}
		ps = append(ps, p)
		byText[first(p)] = rib.Route{P: p, Action: int(next()>>33%255) + 1}
	}
	var l []rib.Route
	for _, r := range byText {
		l = append(l, r)
	}
	return sorted(l)
}

// full is a table of 256 routes of V4, none of which covers another one.
func full() []rib.Route {
	var l []rib.Route
	for v := range most {
		l = append(l, rib.Route{P: prefix.Prefix{A: addr.Addr{uint64(v) << 56, 0}, Len: 8}, Action: v%255 + 1})
	}
	return l
}

// tower is a table of prefixes of all lengths from 0 on, each of which covers
// the next one.
func tower(w int) []rib.Route {
	var l []rib.Route
	for n := range w + 1 {
		l = append(l, rib.Route{P: prefix.Prefix{A: pattern(n), Len: n}, Action: n + 1})
	}
	return l
}

// tables are tables of V6 whose routes are not of world, the greatest ones among
// them.
func tables() [][]rib.Route {
	l := [][]rib.Route{
		nil, {}, full(), tower(v4), tower(v6), tower(v6)[3:90],
		{{prefix.Prefix{}, 1}},
		{{prefix.Prefix{Len: v6}, 255}},
		{{prefix.Prefix{A: addr.Addr{ones, ones}, Len: v6}, 7}},
		{{prefix.Prefix{A: addr.Addr{ones, ones - 1}, Len: v6}, 7}, {prefix.Prefix{A: addr.Addr{ones, ones}, Len: v6}, 7}},
	}
	next := sequence(11)
	for i := range 30 {
		l = append(l, random(next, []int{v4, v6}[i%2], i*8))
	}
	return l
}

// asked are prefixes that may stand for those of a table: its own ones, their
// neighbors, shorter and longer ones, and some that are not valid.
func asked(l []rib.Route) []prefix.Prefix {
	ps := append(strange(8), near(8)...)
	for i, r := range l {
		if i%7 != 0 && len(l) > 40 {
			continue
		}
		p := r.P
		ps = append(ps, p, prefix.Make(p.A, p.Len-1), prefix.Make(p.A, p.Len+1), prefix.Make(addr.Next(p.A), p.Len))
		ps = append(ps, prefix.Make(addr.With(p.A, p.Len, true), p.Len+1), prefix.Prefix{A: p.A, Len: p.Len - 256})
		ps = append(ps, prefix.Prefix{A: addr.Addr{p.A[1], p.A[0]}, Len: p.Len}, prefix.Make(p.A, v6))
	}
	return ps
}

// all calls f with the tables of world at a base: with all of them at the edge
// of the words of an address, and elsewhere with every 17th one, so that it takes
// less time.
func all(base int, f func(l []rib.Route)) {
	step := 17
	if base == 63 {
		step = 1
	}
	ps := world(base)
	for set := 0; set < 1<<len(ps); set += step {
		f(some(ps, set))
	}
}

func TestRight(t *testing.T) { // P6.1
	actions := []int{1, 2, 100, 127, 128, 254, 255}
	for _, base := range bases {
		for _, p := range slices.Concat(world(base), strange(base), near(base)) {
			for _, w := range append([]int{v4, v6}, noFamilies...) {
				for _, action := range append(actions, noActions...) {
					want := valid(w, p) && slices.Contains(actions, action)
					if got := rib.Right(w, rib.Route{P: p, Action: action}); got != want {
						t.Errorf("Right(%d, %x/%d with %d): %t", w, p.A, p.Len, action, got)
					}
				}
			}
		}
	}
}

func TestRightActions(t *testing.T) { // P6.1
	for action := -600; action <= 1200; action++ {
		for _, w := range []int{v4, v6} {
			if got := rib.Right(w, rib.Route{Action: action}); got != (1 <= action && action <= 255) {
				t.Errorf("Right(%d) with the action %d: %t", w, action, got)
			}
		}
	}
	if rib.Right(v4, rib.Route{}) || rib.Right(v6, rib.Route{}) {
		t.Error("the zero route is right")
	}
}

func TestRightLengths(t *testing.T) { // P6.1
	for n := -2; n <= v6+2; n++ {
		for _, w := range []int{v4, v6} {
			if got := rib.Right(w, rib.Route{P: prefix.Prefix{Len: n}, Action: 1}); got != (0 <= n && n <= w) {
				t.Errorf("Right(%d) of the length %d: %t", w, n, got)
			}
		}
	}
}

func TestTable(t *testing.T) { // P6.1
	for _, l := range tables() {
		four := !slices.ContainsFunc(l, func(r rib.Route) bool { return !valid(v4, r.P) })
		if !rib.Table(v6, l) || rib.Table(v4, l) != four {
			t.Errorf("Table of %d routes: %t, %t", len(l), rib.Table(v6, l), rib.Table(v4, l))
		}
	}
	for _, base := range bases {
		all(base, func(l []rib.Route) {
			if !rib.Table(v6, l) {
				t.Errorf("Table(%x) is false", l)
			}
		})
	}
}

func TestTableOfNoFamily(t *testing.T) { // P6.1
	for _, w := range noFamilies {
		for _, l := range tables() {
			if rib.Table(w, l) {
				t.Errorf("Table(%d) of %d routes", w, len(l))
			}
		}
	}
}

// TestTableOfTwo has all pairs of prefixes of a world, in both orders, equal
// ones among them.
func TestTableOfTwo(t *testing.T) { // P6.1
	for _, base := range bases {
		for _, p := range world(base) {
			for _, q := range world(base) {
				for _, action := range []int{1, 2} {
					l := []rib.Route{{p, 1}, {q, action}}
					if got := rib.Table(v6, l); got != (first(p) < first(q)) {
						t.Errorf("Table(%x): %t", l, got)
					}
				}
			}
		}
	}
}

// TestTableAtEachPlace breaks a table at each of its places.
func TestTableAtEachPlace(t *testing.T) { // P6.1
	for _, l := range [][]rib.Route{full(), tower(v4), tower(v6), random(sequence(19), v6, 90)} {
		for i := range l {
			broken := func(name string, r rib.Route) {
				t.Helper()
				m := slices.Clone(l)
				m[i] = r
				if rib.Table(v6, m) {
					t.Errorf("a table with %s at %d of %d", name, i, len(l))
				}
			}
			r := l[i]
			broken("the action 0", rib.Route{P: r.P})
			broken("the action 256", rib.Route{P: r.P, Action: 256})
			broken("the length -1", rib.Route{P: prefix.Prefix{A: r.P.A, Len: -1}, Action: 1})
			broken("the length 129", rib.Route{P: prefix.Prefix{A: r.P.A, Len: 129}, Action: 1})
			if r.P.Len < v6 {
				broken("a bit behind the length", rib.Route{P: prefix.Prefix{A: addr.Or(r.P.A, addr.Addr{0, 1}), Len: r.P.Len}, Action: 1})
			}
			if i > 0 {
				broken("the prefix before it", rib.Route{P: l[i-1].P, Action: r.Action})
				m := slices.Clone(l)
				m[i-1], m[i] = m[i], m[i-1]
				if rib.Table(v6, m) {
					t.Errorf("a table with %d and the one before exchanged", i)
				}
			}
		}
	}
}

func TestTableOfManyRoutes(t *testing.T) { // P6.1
	l := full()
	more := rib.Route{P: prefix.Prefix{A: addr.Addr{0xff01000000000000, 0}, Len: 16}, Action: 1}
	for _, w := range []int{v4, v6} {
		if !rib.Table(w, l) || !rib.Table(w, l[:255]) || !rib.Table(w, l[1:]) {
			t.Errorf("Table(%d) of up to 256 routes is false", w)
		}
		if rib.Table(w, append(slices.Clone(l), more)) || rib.Table(w, rib.Put(l, more)) {
			t.Errorf("Table(%d) of 257 routes is true", w)
		}
		if !rib.Table(w, append(slices.Clone(l[1:]), more)) {
			t.Errorf("Table(%d) of other 256 routes is false", w)
		}
	}
	var long []rib.Route
	for i := range 100_000 {
		long = append(long, rib.Route{P: prefix.Prefix{A: addr.Addr{uint64(i), 0}, Len: 64}, Action: 1})
	}
	if rib.Table(v6, long) || !rib.Table(v6, long[:256]) || rib.Table(v6, long[:257]) || rib.Table(v6, long[:512]) {
		t.Error("Table of a long list")
	}
}

func TestTableOfOtherFamily(t *testing.T) { // P6.1
	l := tower(v4 + 1)
	if rib.Table(v4, l) || !rib.Table(v4, l[:v4+1]) || !rib.Table(v6, l) {
		t.Error("Table of a route with 33 bits")
	}
}

// checkFind holds Find against the routes one by one.
func checkFind(t *testing.T, l []rib.Route, p prefix.Prefix) {
	t.Helper()
	var want rib.Route
	found := false
	for _, r := range l {
		if r.P == p {
			want, found = r, true
		}
	}
	if got, ok := rib.Find(l, p); got != want || ok != found {
		t.Errorf("Find(%x, %x/%d): %x, %t", l, p.A, p.Len, got, ok)
	}
}

// checkPutDrop holds Put and Drop against what is made by other means, and the
// table against what it was.
func checkPutDrop(t *testing.T, l []rib.Route, p prefix.Prefix) {
	t.Helper()
	was := slices.Clone(l)
	others := kept(l, func(r rib.Route) bool { return r.P != p })
	if got := rib.Drop(l, p); !slices.Equal(got, others) {
		t.Errorf("Drop(%x, %x/%d): %x", l, p.A, p.Len, got)
	}
	if valid(v6, p) {
		r := rib.Route{P: p, Action: 77}
		if got := rib.Put(l, r); !slices.Equal(got, sorted(append(others, r))) {
			t.Errorf("Put(%x, %x): %x", l, r, got)
		}
	}
	if !slices.Equal(l, was) {
		t.Errorf("the table %x was changed to %x", was, l)
	}
}

func TestFindPutDrop(t *testing.T) { // P6.1
	for _, l := range tables() {
		for _, p := range asked(l) {
			checkFind(t, l, p)
			checkPutDrop(t, l, p)
		}
	}
}

func TestFindInAllTables(t *testing.T) { // P6.1
	for _, base := range bases {
		ps := slices.Concat(world(base), near(base), behind(base))
		all(base, func(l []rib.Route) {
			for _, p := range ps {
				checkFind(t, l, p)
			}
		})
	}
}

func TestPutDropInAllTables(t *testing.T) { // P6.1
	for _, base := range []int{0, 30, 62, 125} {
		ps := world(base)
		for set := 0; set < 1<<len(ps); set += 5 {
			l := some(ps, set)
			for _, p := range ps {
				checkPutDrop(t, l, p)
			}
		}
	}
}

// TestPutReplaces has the new action, whichever one is the greater one, and
// leaves the number of routes.
func TestPutReplaces(t *testing.T) { // P6.1
	l := full()
	for i, r := range l {
		for _, action := range []int{1, r.Action, 255} {
			want := slices.Clone(l)
			want[i].Action = action
			got := rib.Put(l, rib.Route{P: r.P, Action: action})
			if !slices.Equal(got, want) || !rib.Table(v4, got) {
				t.Errorf("Put at %d with the action %d: %x", i, action, got)
			}
		}
	}
}

// TestPutOfOneMore has a list of 257 routes, which is not a table.
func TestPutOfOneMore(t *testing.T) { // P6.1
	r := rib.Route{P: prefix.Prefix{A: addr.Addr{0x8000000000000000, 0}, Len: 1}, Action: 9}
	got := rib.Put(full(), r)
	if want := slices.Insert(full(), 128, r); !slices.Equal(got, want) {
		t.Errorf("Put of one more: %d routes", len(got))
	}
	if !slices.Equal(rib.Drop(got, r.P), full()) {
		t.Error("Drop of one more")
	}
}

// TestPutInAnyOrder builds a table of its routes and takes it apart again.
func TestPutInAnyOrder(t *testing.T) { // P6.1
	next := sequence(29)
	for range 40 {
		want := random(next, v6, 150)
		order := slices.Clone(want)
		for i := range order {
			j := int(next() >> 33 % uint64(i+1))
			order[i], order[j] = order[j], order[i]
		}
		var l []rib.Route
		for i, r := range order {
			l = rib.Put(l, rib.Route{P: r.P, Action: 255})
			l = rib.Put(l, r)
			if len(l) != i+1 || !rib.Table(v6, l) {
				t.Fatalf("after %d Puts: %x", i+1, l)
			}
		}
		if !slices.Equal(l, want) {
			t.Fatalf("Puts of %x: %x", want, l)
		}
		for i, r := range order {
			l = rib.Drop(l, r.P)
			if got, found := rib.Find(l, r.P); found || got != (rib.Route{}) || len(l) != len(order)-1-i || !rib.Table(v6, l) {
				t.Fatalf("after %d Drops: %x", i+1, l)
			}
		}
	}
}

// checkTell holds Best and Tell against the definition.
func checkTell(t *testing.T, l []rib.Route, a addr.Addr) {
	t.Helper()
	want, found := wantBest(l, a)
	if got, ok := rib.Best(l, a); got != want || ok != found {
		t.Errorf("Best(%x, %x): %x, %t", l, a, got, ok)
	}
	if got := rib.Tell(l, a); got != want.Action {
		t.Errorf("Tell(%x, %x): %d", l, a, got)
	}
}

// checkTree holds Cover and Under against the definitions.
func checkTree(t *testing.T, l []rib.Route, p prefix.Prefix) {
	t.Helper()
	want, found := wantCover(l, p)
	if got, ok := rib.Cover(l, p); got != want || ok != found {
		t.Errorf("Cover(%x, %x/%d): %x, %t", l, p.A, p.Len, got, ok)
	}
	below := kept(l, func(r rib.Route) bool { return covers(p, r.P) })
	if got := rib.Under(l, p); !slices.Equal(got, below) {
		t.Errorf("Under(%x, %x/%d): %x", l, p.A, p.Len, got)
	}
}

// checkChain holds Chain against the definition.
func checkChain(t *testing.T, l []rib.Route) {
	t.Helper()
	if got, want := rib.Chain(l), wantChain(l); got != want {
		t.Errorf("Chain(%x): %d, not %d", l, got, want)
	}
}

func TestBest(t *testing.T) { // P6.2
	for _, l := range tables() {
		for _, p := range asked(l) {
			checkTell(t, l, p.A)
			checkTell(t, l, addr.Or(p.A, addr.Not(addr.Mask(p.Len))))
		}
		for _, a := range spots(8) {
			checkTell(t, l, a)
		}
	}
}

func TestBestInAllTables(t *testing.T) { // P6.2
	for _, base := range bases {
		as := spots(base)
		all(base, func(l []rib.Route) {
			for _, a := range as {
				checkTell(t, l, a)
			}
		})
	}
}

// TestBestAtEachBit turns one bit of an address in a tower, so that it leaves
// the prefixes that are longer.
func TestBestAtEachBit(t *testing.T) { // P6.2
	l := tower(v6)
	a := pattern(v6)
	for k := range v6 {
		turned := addr.With(a, k, !addr.Bit(a, k))
		if got, ok := rib.Best(l, turned); got != l[k] || !ok {
			t.Errorf("Best with bit %d turned: %x, %t", k, got, ok)
		}
		if got, ok := rib.Best(l[k+1:], turned); got != (rib.Route{}) || ok || rib.Tell(l[k+1:], turned) != 0 {
			t.Errorf("Best of none, with bit %d turned: %x, %t", k, got, ok)
		}
	}
	if got, ok := rib.Best(l, a); got != l[v6] || !ok || rib.Tell(l, a) != l[v6].Action {
		t.Errorf("Best of the longest one: %x, %t", got, ok)
	}
}

func TestCoverUnder(t *testing.T) { // P6.2
	for _, l := range tables() {
		for _, p := range asked(l) {
			checkTree(t, l, p)
		}
	}
}

func TestCoverUnderInAllTables(t *testing.T) { // P6.2
	for _, base := range bases {
		ps := slices.Concat(world(base), near(base), behind(base))
		all(base, func(l []rib.Route) {
			for _, p := range ps {
				checkTree(t, l, p)
			}
		})
	}
}

// TestCoverOfStrange asks for prefixes that are not valid.
func TestCoverOfStrange(t *testing.T) { // P6.2
	for _, base := range bases {
		ps := world(base)
		for set := 0; set < 1<<len(ps); set += 113 {
			for _, p := range strange(base) {
				checkTree(t, some(ps, set), p)
			}
		}
	}
}

func TestCoverInTower(t *testing.T) { // P6.2
	l := tower(v6)
	for n, r := range l {
		want, found := rib.Route{}, n > 0
		if found {
			want = l[n-1]
		}
		if got, ok := rib.Cover(l, r.P); got != want || ok != found {
			t.Errorf("Cover of %d bits: %x, %t", n, got, ok)
		}
		if got := rib.Under(l, r.P); !slices.Equal(got, l[n+1:]) {
			t.Errorf("Under %d bits: %d routes", n, len(got))
		}
	}
}

func TestChain(t *testing.T) { // P6.2
	for _, l := range tables() {
		checkChain(t, l)
	}
	for _, base := range bases {
		all(base, func(l []rib.Route) { checkChain(t, l) })
	}
}

func TestChainOfTowers(t *testing.T) { // P6.2
	l := tower(v6)
	for n := range len(l) + 1 {
		if got := rib.Chain(l[:n]); got != n {
			t.Errorf("Chain of the first %d: %d", n, got)
		}
		if got := rib.Chain(l[n:]); got != len(l)-n {
			t.Errorf("Chain without the first %d: %d", n, got)
		}
	}
	if got := rib.Chain(full()); got != 1 {
		t.Errorf("Chain of 256 routes that are apart: %d", got)
	}
	if got := rib.Chain(rib.Put(full(), rib.Route{Action: 1})); got != 2 {
		t.Errorf("Chain of 256 routes that are apart and one that covers all: %d", got)
	}
}

// TestChainOfTwoTowers has the longer one of two chains behind the shorter one,
// and before it.
func TestChainOfTwoTowers(t *testing.T) { // P6.2
	for n := range 20 {
		var l []rib.Route
		for i := range 40 {
			side := uint64(0)
			if i >= n {
				side = 1 << 63
			}
			l = append(l, rib.Route{P: prefix.Prefix{A: addr.Addr{side, 0}, Len: i + 1}, Action: 1})
		}
		if got := rib.Chain(l); got != 40-n || !rib.Table(v6, l) {
			t.Errorf("Chain of %d and %d routes: %d", n, 40-n, got)
		}
		for i := range l {
			l[i].P.A[0] ^= 1 << 63
		}
		if l = sorted(l); rib.Chain(l) != 40-n {
			t.Errorf("Chain of %d and %d routes: %d", 40-n, n, rib.Chain(l))
		}
	}
}

// spoiled is a list with memory behind its end that no call may change.
func spoiled(l []rib.Route) (list, whole []rib.Route) {
	whole = slices.Concat(l, full()[:8])
	return whole[:len(l)], whole
}

// results are all lists that calls return for a table.
func results(l []rib.Route) [][]rib.Route {
	p := prefix.Prefix{A: addr.Addr{1 << 63, 0}, Len: 8}
	if len(l) > 0 {
		p = l[len(l)/2].P
	}
	q := prefix.Make(addr.Addr{ones, ones}, 127)
	return [][]rib.Route{
		rib.Put(l, rib.Route{P: p, Action: 77}), rib.Put(l, rib.Route{P: q, Action: 78}),
		rib.Put(l, rib.Route{Action: 79}),
		rib.Drop(l, p), rib.Drop(l, q), rib.Drop(l, prefix.Prefix{}),
		rib.Under(l, p), rib.Under(l, prefix.Prefix{}), rib.Under(l, prefix.Prefix{Len: -1}),
	}
}

// TestResultsAreNew changes each result, with its spare memory, and holds the
// argument and the other results against what they were.
func TestResultsAreNew(t *testing.T) { // P6.1, P6.2
	for _, table := range tables() {
		l, whole := spoiled(table)
		was := slices.Clone(whole)
		got, want := results(l), results(table)
		for i := range got {
			if !slices.Equal(got[i], want[i]) {
				t.Errorf("result %d depends on the memory behind the list", i)
			}
			memory := got[i][:cap(got[i])]
			for k := range memory {
				memory[k] = rib.Route{Action: -1}
			}
			for j := i + 1; j < len(got); j++ {
				if !slices.Equal(got[j], want[j]) {
					t.Errorf("result %d shares memory with result %d", j, i)
				}
			}
			if !slices.Equal(whole, was) {
				t.Fatalf("result %d shares memory with the list", i)
			}
		}
	}
}

// TestResultsStay changes the argument after the calls.
func TestResultsStay(t *testing.T) { // P6.1, P6.2
	for _, table := range tables() {
		l, whole := spoiled(table)
		got := results(l)
		for i := range whole {
			whole[i] = rib.Route{Action: -1}
		}
		for i, want := range results(table) {
			if !slices.Equal(got[i], want) {
				t.Errorf("result %d has kept the list", i)
			}
		}
	}
}

// TestNothingIsChanged calls everything that takes a list.
func TestNothingIsChanged(t *testing.T) { // P6.1, P6.2
	for _, table := range tables() {
		l, whole := spoiled(table)
		was := slices.Clone(whole)
		callAll(l, prefix.Prefix{A: addr.Addr{0x0a00000000000000, 0}, Len: 8})
		if !slices.Equal(whole, was) {
			t.Errorf("a call has changed %x", was)
		}
	}
}

// callAll calls everything that takes a list.
func callAll(l []rib.Route, p prefix.Prefix) {
	for _, w := range append([]int{v4, v6}, noFamilies...) {
		rib.Table(w, l)
	}
	rib.Find(l, p)
	rib.Put(l, rib.Route{P: p, Action: 1})
	rib.Drop(l, p)
	rib.Best(l, p.A)
	rib.Tell(l, p.A)
	rib.Cover(l, p)
	rib.Under(l, p)
	rib.Chain(l)
}

// TestNoTables calls everything with lists that are not tables: the calls must
// end without a panic and leave the list.
func TestNoTables(t *testing.T) { // P6.1, P6.2
	next := sequence(37)
	odd := slices.Concat(strange(0), strange(63), world(0), world(63))
	for range 400 {
		var l []rib.Route
		for range next() >> 33 % 40 {
			p := odd[next()>>33%uint64(len(odd))]
			l = append(l, rib.Route{P: p, Action: noActions[next()>>33%uint64(len(noActions))]})
		}
		was := slices.Clone(l)
		for _, p := range odd {
			callAll(l, p)
		}
		if !slices.Equal(l, was) {
			t.Errorf("a call has changed %x", was)
		}
	}
}

// TestLongLists are far longer than a table.
func TestLongLists(t *testing.T) { // P6.1, P6.2
	const many = 200_000
	next := sequence(41)
	var apart, same, down, wild []rib.Route
	for i := range many {
		apart = append(apart, rib.Route{P: prefix.Prefix{A: addr.Addr{uint64(i), 0}, Len: 64}, Action: 1})
		same = append(same, rib.Route{Action: i})
		down = append(down, rib.Route{P: prefix.Prefix{Len: many - i}})
		wild = append(wild, rib.Route{P: prefix.Prefix{A: addr.Addr{next(), next()}, Len: int(next())}, Action: int(next())})
	}
	for _, l := range [][]rib.Route{apart, same, down, wild} {
		for _, p := range []prefix.Prefix{{}, {A: pattern(v6), Len: v6}, l[many/2].P} {
			callAll(l, p)
		}
		for _, w := range []int{v4, v6} {
			if rib.Table(w, l) {
				t.Errorf("Table(%d) of %d routes", w, many)
			}
		}
	}
}

// four is a prefix of V4.
func four(a uint64, n int) prefix.Prefix { return prefix.Prefix{A: addr.Addr{a << 32, 0}, Len: n} }

func TestExample(t *testing.T) { // example 1
	l := []rib.Route{{four(0, 0), 1}, {four(0x0a000000, 8), 2}, {four(0x0a010000, 16), 3}}
	if !rib.Table(v4, l) || rib.Chain(l) != 3 {
		t.Errorf("Chain: %d", rib.Chain(l))
	}
	if got, ok := rib.Cover(l, l[2].P); got != l[1] || !ok {
		t.Errorf("Cover: %x, %t", got, ok)
	}
	if got := rib.Under(l, l[0].P); !slices.Equal(got, l[1:]) {
		t.Errorf("Under: %x", got)
	}
	for a, want := range map[uint64]int{0x0a010203: 3, 0x0a020203: 2, 0x0b000000: 1} {
		if got := rib.Tell(l, addr.Addr{a << 32, 0}); got != want {
			t.Errorf("Tell of %x: %d", a, got)
		}
	}
	if got := rib.Tell(l[1:], addr.Addr{0x0b000000 << 32, 0}); got != 0 {
		t.Errorf("Tell of an address without a route: %d", got)
	}
}
