package job_test

import (
	"fmt"
	"math"
	"slices"
	"testing"

	"pigeonhole/addr"
	"pigeonhole/api"
	"pigeonhole/bank"
	"pigeonhole/entry"
	"pigeonhole/job"
	"pigeonhole/prefix"
	"pigeonhole/word"
)

// strange are numbers at which a narrower integer, or one without a sign, would go
// wrong.
var strange = []int{
	math.MinInt, math.MinInt + 1, math.MinInt32, -1 << 32, -1<<32 + 1, -257, -256, -255, -129, -128, -2, -1, 127, 128, 255, 256, 257,
	1 << 15, 1<<16 + 1, 1 << 31, 1 << 32, 1<<32 + 1, 1<<32 + 2, math.MaxInt - 1, math.MaxInt,
}

// errors are what a do may return besides OK: all of package api, and others.
func errors() []api.Errno {
	l := []api.Errno{api.ErrBad, api.ErrAbsent, api.ErrFull, api.ErrForm, api.ErrSlot, api.ErrMany, api.ErrOrder, api.ErrState}
	for _, n := range strange {
		l = append(l, api.Errno(n))
	}
	return append(l, 9, 16)
}

// sequence makes numbers without a pattern, always the same ones.
func sequence(seed uint64) func(below int) int {
	x := seed
	return func(below int) int {
		x = x*6364136223846793005 + 1442695040888963407
		return int(x >> 33 % uint64(below))
	}
}

// holding is a slot with an entry of some length.
func holding(n int) bank.Slot {
	return bank.Slot{Valid: true, E: entry.Of(prefix.Make(addr.Addr{0x0a0b << 48, 0}, n), 1+n)}
}

// numbered are moves that differ, of some banks.
func numbered(n int) []job.Move {
	l := make([]job.Move, n)
	for k := range l {
		l[k] = job.Move{Bank: k % 3, W: bank.Write{At: k, S: holding(k % 17)}}
	}
	return l
}

// kinds are moves that a job has to keep as they are, most of which no bank would
// take.
func kinds() []job.Move {
	bad := entry.Entry{W: word.Word{Value: addr.Addr{1, 1}}, Len: -5, Action: 300}
	l := []job.Move{
		{},
		{Bank: 1},
		{W: bank.Write{At: 1}},
		{W: bank.Write{S: holding(0)}},
		{Bank: 7, W: bank.Write{At: 255, S: holding(16)}},
		{W: bank.Write{S: bank.Slot{Valid: true}}},
		{W: bank.Write{S: bank.Slot{E: entry.Entry{Action: 1}}}},
		{W: bank.Write{S: bank.Slot{Valid: true, E: bad}}},
		{W: bank.Write{S: bank.Slot{E: bad}}},
	}
	for _, n := range strange {
		l = append(l, job.Move{Bank: n}, job.Move{W: bank.Write{At: n, S: holding(8)}})
	}
	return l
}

// lists calls f with all lists of up to so many of some things.
func lists[T any](from []T, most int, f func(l []T)) {
	var longer func(l []T)
	longer = func(l []T) {
		f(l)
		for _, x := range from {
			if len(l) < most {
				longer(append(slices.Clone(l), x))
			}
		}
	}
	longer(nil)
}

// worker is what executes moves: it returns its answers, one for each call, and OK
// from then on.
type worker struct {
	answers []api.Errno
	got     []job.Move
}

func (w *worker) do(m job.Move) api.Errno {
	w.got = append(w.got, m)
	if k := len(w.got) - 1; k < len(w.answers) {
		return w.answers[k]
	}
	return api.OK
}

// fine is a do that cannot fail.
func fine(m job.Move) api.Errno { return api.OK }

// checkLeft asks a job for all that it tells, twice, as nothing may change by that.
func checkLeft(t *testing.T, what string, j *job.Job, left []job.Move) {
	t.Helper()
	for range 2 {
		if n := j.Left(); n != len(left) {
			t.Fatalf("%s: Left is %d, not %d", what, n, len(left))
		}
		if l := j.Rest(); !slices.Equal(l, left) {
			t.Fatalf("%s: Rest is %v, not %v", what, l, left)
		}
		m, found := j.Peek()
		if len(left) == 0 && (found || m != job.Move{}) || len(left) > 0 && (!found || m != left[0]) {
			t.Fatalf("%s: Peek is %v, %v, with %v left", what, m, found, left)
		}
	}
}

// act is a call of Step or of Run, whose do has some answers, or is nil.
type act struct {
	run, none bool
	most      int
	answers   []api.Errno
}

// outcome is what an act comes to.
type outcome struct {
	done int
	e    api.Errno
	got  []job.Move
	left []job.Move
}

// expected is the chapter's definition: what ends a run is looked for at once.
func expected(left []job.Move, a act) outcome {
	if a.none {
		return outcome{e: api.ErrBad, left: left}
	}
	able := min(len(left), max(a.most, 0))
	if !a.run {
		able = min(len(left), 1)
		if able == 0 {
			return outcome{e: api.ErrState}
		}
	}
	wrong := slices.IndexFunc(a.answers, func(e api.Errno) bool { return e != api.OK })
	if wrong >= 0 && wrong < able {
		return outcome{done: wrong, e: a.answers[wrong], got: left[:wrong+1], left: left[wrong:]}
	}
	return outcome{done: able, got: left[:able], left: left[able:]}
}

// check performs an act on a job with some moves left, and returns those that are
// left then.
func check(t *testing.T, j *job.Job, left []job.Move, a act) []job.Move {
	t.Helper()
	w := &worker{answers: a.answers}
	do := w.do
	if a.none {
		do = nil
	}
	want := expected(left, a)
	what := fmt.Sprintf("%+v with %d left", a, len(left))
	if a.run {
		if n, e := j.Run(do, a.most); n != want.done || e != want.e {
			t.Fatalf("%s: %d, %v, not %d, %v", what, n, e, want.done, want.e)
		}
	} else if e := j.Step(do); e != want.e {
		t.Fatalf("%s: %v, not %v", what, e, want.e)
	}
	if !slices.Equal(w.got, want.got) {
		t.Fatalf("%s: do got %v, not %v", what, w.got, want.got)
	}
	checkLeft(t, what, j, want.left)
	return want.left
}

// TestNew has all lists of up to two moves, of all kinds, and none done.
func TestNew(t *testing.T) { // P15.1
	lists(kinds(), 2, func(l []job.Move) {
		checkLeft(t, fmt.Sprint("New of ", l), job.New(l), l)
		checkLeft(t, fmt.Sprint("Copy of ", l), job.New(l).Copy(), l)
	})
	for n := range 300 {
		checkLeft(t, "New", job.New(numbered(n)), numbered(n))
	}
}

// TestNone has nil and empty lists, which are equivalent.
func TestNone(t *testing.T) { // P15.1, P15.2
	for _, l := range [][]job.Move{nil, {}, make([]job.Move, 0, 5), numbered(3)[:0], numbered(3)[3:]} {
		for _, j := range []*job.Job{job.New(l), job.New(l).Copy()} {
			checkLeft(t, "New of none", j, nil)
			check(t, j, nil, act{})
			check(t, j, nil, act{none: true})
			for _, most := range append([]int{0, 1}, strange...) {
				check(t, j, nil, act{run: true, most: most})
				check(t, j, nil, act{run: true, most: most, none: true})
			}
		}
	}
	for _, l := range [][]bank.Write{nil, {}, make([]bank.Write, 0, 5)} {
		if moves := job.Of(3, l); len(moves) != 0 {
			t.Errorf("Of no writes: %v", moves)
		}
	}
}

// TestKinds has moves of all kinds executed: do gets each one as it was given.
func TestKinds(t *testing.T) { // P15.1, P15.2
	l := kinds()
	steps, run := job.New(l), job.New(l)
	left := l
	for range l {
		left = check(t, steps, left, act{})
	}
	check(t, steps, left, act{})
	check(t, run, l, act{run: true, most: len(l)})
	for k := range l {
		lists(l[k:k+1], 3, func(same []job.Move) {
			check(t, job.New(same), same, act{run: true, most: 9})
			check(t, job.New(same), same, act{run: true, most: 2})
		})
	}
}

// TestAnswers has do return each error: the move is not done, and comes again.
func TestAnswers(t *testing.T) { // P15.2
	l := numbered(3)
	for _, e := range errors() {
		j := job.New(l)
		check(t, j, l, act{answers: []api.Errno{e}})
		check(t, j, l, act{answers: []api.Errno{e}})
		left := check(t, j, l, act{})
		for _, most := range []int{1, 2, 3, math.MaxInt} {
			check(t, j, left, act{run: true, most: most, answers: []api.Errno{e}})
		}
		left = check(t, j, left, act{run: true, most: 2, answers: []api.Errno{api.OK, e}})
		left = check(t, j, left, act{answers: []api.Errno{e}})
		check(t, j, left, act{run: true, most: 1, answers: []api.Errno{api.OK, e}})
		check(t, j, nil, act{answers: []api.Errno{e}})
		check(t, j, nil, act{run: true, most: 1, answers: []api.Errno{e}})
	}
}

// TestRun has all numbers of moves, bounds and places of an error, up to some.
func TestRun(t *testing.T) { // P15.2
	bounds := slices.Clone(strange)
	for most := range 9 {
		bounds = append(bounds, most)
	}
	for n := range 7 {
		l := numbered(n)
		for _, most := range bounds {
			check(t, job.New(l), l, act{run: true, none: true, most: most})
			for wrong := range 8 {
				for _, e := range []api.Errno{api.OK, api.ErrBad, api.ErrState, -1} {
					answers := append(make([]api.Errno, wrong), e)
					check(t, job.New(l), l, act{run: true, most: most, answers: answers})
				}
			}
		}
	}
}

// TestBoundOfRun has a negative bound, and 0: do is not called at all.
func TestBoundOfRun(t *testing.T) { // P15.2
	never := func(m job.Move) api.Errno {
		t.Errorf("do got %v", m)
		return api.OK
	}
	for _, most := range append([]int{0}, strange...) {
		if most > 0 {
			continue
		}
		j := job.New(numbered(4))
		if n, e := j.Run(never, most); n != 0 || e != api.OK {
			t.Errorf("Run of at most %d: %d, %v", most, n, e)
		}
		checkLeft(t, "Run of none", j, numbered(4))
	}
}

// TestWhichError has several errors apply: that of a nil do comes first, also where
// nothing would be executed.
func TestWhichError(t *testing.T) { // P15.2
	for n := range 3 {
		j := job.New(numbered(n))
		if e := j.Step(nil); e != api.ErrBad {
			t.Errorf("Step of nil with %d left: %v", n, e)
		}
		for _, most := range append([]int{0, 1, 2, 3}, strange...) {
			if done, e := j.Run(nil, most); done != 0 || e != api.ErrBad {
				t.Errorf("Run of nil with %d left, at most %d: %d, %v", n, most, done, e)
			}
		}
		checkLeft(t, "nil", j, numbered(n))
	}
	j := job.New(nil)
	if e := j.Step(fine); e != api.ErrState {
		t.Errorf("Step with none left: %v", e)
	}
	if n, e := j.Run(fine, 5); n != 0 || e != api.OK {
		t.Errorf("Run with none left: %d, %v", n, e)
	}
}

// acts are calls of all sorts.
func acts() []act {
	l := []act{{}, {answers: []api.Errno{api.ErrFull}}, {answers: []api.Errno{api.ErrState}}, {none: true}, {run: true, none: true, most: 2}}
	for most := -1; most <= 3; most++ {
		l = append(l, act{run: true, most: most})
	}
	for k := range 3 {
		answers := append(make([]api.Errno, k), api.ErrBad, api.ErrSlot)
		l = append(l, act{run: true, most: 2, answers: answers}, act{run: true, most: math.MaxInt, answers: answers})
	}
	return l
}

// TestActs has all ways through some acts: what one comes to depends on the moves
// that are left alone.
func TestActs(t *testing.T) { // P15.1, P15.2, P15.3
	all := acts()
	for n := range 5 {
		lists(all, 3, func(way []act) {
			left := numbered(n)
			j := job.New(left)
			for _, a := range way {
				left = check(t, j, left, a)
			}
		})
	}
}

// TestCopy has copies at every point of a job, of which one or the other goes on.
func TestCopy(t *testing.T) { // P15.1
	all := acts()
	for n := range 6 {
		for done := range n + 1 {
			for _, a := range all {
				j := job.New(numbered(n))
				j.Run(fine, done)
				left := numbered(n)[done:]
				other := j.Copy()
				third := other.Copy()
				after := check(t, other, left, a)
				checkLeft(t, "what was copied", j, left)
				check(t, j, left, a)
				checkLeft(t, "the copy", other, after)
				checkLeft(t, "the copy of the copy", third, left)
				for range n + 1 {
					after = check(t, other, after, act{})
				}
				check(t, third, left, act{run: true, most: n})
			}
		}
	}
}

// TestDuring has do ask the job: the move that it executes is not done yet.
func TestDuring(t *testing.T) { // P15.1, P15.2
	for n := 1; n < 6; n++ {
		l := numbered(n)
		for _, e := range []api.Errno{api.OK, api.ErrFull} {
			left := l
			var copies []*job.Job
			j := job.New(l)
			ask := func(m job.Move) api.Errno {
				checkLeft(t, "within do", j, left)
				copies = append(copies, j.Copy())
				clear(j.Rest())
				if e == api.OK {
					left = left[1:]
				}
				return e
			}
			if got := j.Step(ask); got != e {
				t.Fatalf("Step: %v", got)
			}
			checkLeft(t, "after Step", j, left)
			j.Run(ask, n)
			checkLeft(t, "after Run", j, left)
			for k, other := range copies {
				was := l
				if e == api.OK {
					was = l[k:]
				}
				checkLeft(t, "a copy within do", other, was)
				check(t, other, was, act{run: true, most: n})
			}
		}
	}
}

// TestDoSteps has do take steps of the job itself. Which of both calls has the move
// done is not said; but no move is passed over, and none is done without an OK.
func TestDoSteps(t *testing.T) { // P15.3
	both := []api.Errno{api.OK, api.ErrFull}
	for n := range 6 {
		for steps := range 7 {
			for _, outer := range both {
				for _, inner := range both {
					checkNested(t, n, steps, outer, inner)
				}
			}
		}
	}
}

// checkNested has a do with the answer outer run some steps whose answer is inner.
func checkNested(t *testing.T, n, steps int, outer, inner api.Errno) {
	t.Helper()
	j := job.New(numbered(n))
	did := make([]bool, n)
	check := func(what string) {
		t.Helper()
		for k := range did {
			if did[k] != (k < n-j.Left()) {
				t.Fatalf("%s of %d moves with %d steps within, %v, %v: %v are done, and %d left", what, n, steps, outer, inner, did, j.Left())
			}
		}
		checkLeft(t, what, j, numbered(n)[n-j.Left():])
	}
	answer := func(m job.Move, e api.Errno) api.Errno {
		did[m.W.At] = did[m.W.At] || e == api.OK
		return e
	}
	within := func(m job.Move) api.Errno { return answer(m, inner) }
	do := func(m job.Move) api.Errno {
		j.Run(within, steps)
		check("the run within")
		return answer(m, outer)
	}
	j.Step(do)
	check("Step")
	j.Run(do, n)
	check("Run")
}

// TestPanic has a do that does not return: its panic is the caller's, and the move
// is not done.
func TestPanic(t *testing.T) { // P15.2
	l := numbered(5)
	j := job.New(l)
	broken := func(call func(do func(m job.Move) api.Errno), after int) {
		defer func() {
			if p := recover(); p != "broken" {
				t.Errorf("the panic is %v", p)
			}
		}()
		call(func(m job.Move) api.Errno {
			if after--; after < 0 {
				panic("broken")
			}
			return api.OK
		})
	}
	broken(func(do func(m job.Move) api.Errno) { j.Step(do) }, 0)
	checkLeft(t, "a panic of Step", j, l)
	broken(func(do func(m job.Move) api.Errno) { j.Run(do, 5) }, 2)
	checkLeft(t, "a panic of Run", j, l[2:])
	check(t, j, l[2:], act{run: true, most: 9})
}

// TestOneCall has each do called during its own call only.
func TestOneCall(t *testing.T) { // P15.2
	calls := [3]int{}
	counting := func(k int, e api.Errno) func(m job.Move) api.Errno {
		return func(m job.Move) api.Errno {
			calls[k]++
			return e
		}
	}
	j := job.New(numbered(9))
	j.Step(counting(0, api.OK))
	j.Step(counting(1, api.ErrBad))
	j.Run(counting(2, api.OK), 3)
	if calls != [3]int{1, 1, 3} {
		t.Fatalf("the calls: %v", calls)
	}
	other := j.Copy()
	checkLeft(t, "after the calls", j, numbered(9)[4:])
	other.Run(fine, 2)
	j.Step(nil)
	j.Run(nil, 3)
	j.Run(fine, 0)
	j.Step(fine)
	j.Run(fine, 9)
	if calls != [3]int{1, 1, 3} {
		t.Errorf("the calls, later: %v", calls)
	}
}

// TestOf has a move for each write, as it is, of the bank that is told, as it is.
func TestOf(t *testing.T) { // P15.1
	var writes []bank.Write
	for _, m := range kinds() {
		writes = append(writes, m.W)
	}
	banks := append([]int{0, 1, 2, 7, 8}, strange...)
	lists(writes[:12], 2, func(l []bank.Write) {
		for _, at := range banks {
			checkOf(t, at, l)
		}
	})
	for _, at := range banks {
		checkOf(t, at, writes)
	}
	two := job.Of(2, []bank.Write{{At: 4}, {At: 0, S: holding(8)}})
	if want := []job.Move{{Bank: 2, W: bank.Write{At: 4}}, {Bank: 2, W: bank.Write{S: holding(8)}}}; !slices.Equal(two, want) {
		t.Errorf("Of two writes: %v", two)
	}
}

func checkOf(t *testing.T, at int, l []bank.Write) {
	t.Helper()
	moves := job.Of(at, l)
	if len(moves) != len(l) {
		t.Fatalf("Of %d writes: %d moves", len(l), len(moves))
	}
	for k, m := range moves {
		if m.Bank != at || m.W != l[k] {
			t.Fatalf("Of the bank %d: %v becomes %v", at, l[k], m)
		}
	}
}

// TestMemory has lists with spare memory, which no call may touch, and changes what
// was given and what was returned, which may change nothing else.
func TestMemory(t *testing.T) { // P15.1
	for n := range 20 {
		spare := numbered(n + 3)
		l := spare[:n]
		j := job.New(l)
		other := j.Copy()
		if n > 0 {
			j.Step(fine)
		}
		j.Rest()
		if !slices.Equal(spare, numbered(n+3)) {
			t.Fatalf("New of %d changes what was given", n)
		}
		clear(spare)
		left := numbered(n)[min(n, 1):]
		checkLeft(t, "what was given, changed", j, left)
		checkLeft(t, "what was given, changed", other, numbered(n))
		first, second := j.Rest(), j.Rest()
		third := other.Rest()
		clear(first[:cap(first)])
		if !slices.Equal(second, left) || !slices.Equal(third, numbered(n)) {
			t.Fatalf("Rest of %d shares memory with Rest", n)
		}
		checkLeft(t, "what was returned, changed", j, left)
		_ = append(second, job.Move{Bank: 5})
		checkLeft(t, "what was returned, appended to", j, left)
		clear(third[:cap(third)])
		checkLeft(t, "the copy's rest, changed", other, numbered(n))
		third = j.Rest()
		if n > 0 {
			j.Run(fine, n)
		}
		if !slices.Equal(third, left) {
			t.Fatalf("Rest of %d changes with the job", n)
		}
	}
}

// TestMemoryOfOf does the same for writes.
func TestMemoryOfOf(t *testing.T) { // P15.1
	for n := range 20 {
		var spare []bank.Write
		for _, m := range numbered(n + 3) {
			spare = append(spare, m.W)
		}
		was := slices.Clone(spare)
		l := spare[:n]
		first, second := job.Of(1, l), job.Of(1, l)
		clear(first[:cap(first)])
		if !slices.Equal(spare, was) {
			t.Fatalf("Of %d writes changes what was given, or shares memory with it", n)
		}
		clear(spare)
		for k, m := range second {
			if m != (job.Move{Bank: 1, W: was[k]}) {
				t.Fatalf("Of %d writes shares memory: %v", n, m)
			}
		}
	}
}

// TestApart has jobs of the same list, by turns: each has a state of its own.
func TestApart(t *testing.T) { // P15.1, P15.2
	l := numbered(6)
	var jobs []*job.Job
	var left [][]job.Move
	for range 4 {
		jobs = append(jobs, job.New(l))
		left = append(left, l)
	}
	next := sequence(1)
	all := acts()
	for range 200 {
		k := next(len(jobs))
		left[k] = check(t, jobs[k], left[k], all[next(len(all))])
		for i, j := range jobs {
			checkLeft(t, "another job", j, left[i])
		}
	}
}

// TestHowever executes jobs in ways without a pattern, and in copies: do gets each
// move until it returns OK for it, and then the next one.
func TestHowever(t *testing.T) { // P15.3
	next := sequence(2)
	for round := range 2000 {
		n, often := next(30), 1+next(5)
		l := numbered(n)
		j := job.New(l)
		var got []job.Move
		var answers []api.Errno
		do := func(m job.Move) api.Errno {
			e := api.OK
			if next(often) > 0 {
				e = api.Errno(1 + next(8))
			}
			got, answers = append(got, m), append(answers, e)
			return e
		}
		for j.Left() > 0 {
			switch next(6) {
			case 0:
				j.Step(nil)
				j.Run(nil, 3)
				j.Run(do, -next(3))
			case 1:
				j = j.Copy()
			case 2:
				j = job.New(j.Rest())
			case 3:
				j.Run(do, next(n+2))
			default:
				j.Step(do)
			}
		}
		if e := j.Step(do); e != api.ErrState {
			t.Fatalf("Step with none left: %v", e)
		}
		checkCalls(t, round, l, got, answers)
	}
}

// checkCalls tells whether do got all moves in order, and one again only where its
// answer was an error.
func checkCalls(t *testing.T, round int, l, got []job.Move, answers []api.Errno) {
	t.Helper()
	k := 0
	for i, m := range got {
		if k >= len(l) || m != l[k] {
			t.Fatalf("round %d: call %d of do got %v, and %d of %d were done", round, i, m, k, len(l))
		}
		if answers[i] == api.OK {
			k++
		}
	}
	if k != len(l) {
		t.Fatalf("round %d: %d of %d were done", round, k, len(l))
	}
}

// TestBanks executes moves in banks, with breaks: the slots become what Apply has
// for the writes of each bank.
func TestBanks(t *testing.T) { // P15.1, P15.2, P15.3
	next := sequence(3)
	for range 500 {
		const size = 5
		var banks []*bank.Bank
		var l []job.Move
		writes := make([][]bank.Write, 1+next(4))
		for k := range writes {
			b, _ := bank.New(size)
			banks = append(banks, b)
			for range next(8) {
				w := bank.Write{At: next(size)}
				if next(3) > 0 {
					w.S = holding(next(20))
				}
				writes[k] = append(writes[k], w)
			}
			l = append(l, job.Of(k, writes[k])...)
		}
		j := job.New(l)
		do := func(m job.Move) api.Errno { return banks[m.Bank].Do(m.W) }
		for j.Left() > 0 {
			before, most := j.Left(), next(4)
			if n, e := j.Run(do, most); e != api.OK || n != min(most, before) || j.Left() != before-n {
				t.Fatalf("Run of at most %d of %d: %d, %v", most, before, n, e)
			}
		}
		for k, b := range banks {
			if want := bank.Apply(make([]bank.Slot, size), writes[k]); !slices.Equal(b.Slots(), want) || b.Writes() != len(writes[k]) {
				t.Fatalf("bank %d after %v: %v", k, writes[k], b.Slots())
			}
		}
	}
}

// TestRefused has a write that a bank does not take: the job does not go past it,
// however often it is tried.
func TestRefused(t *testing.T) { // P15.2, P15.3
	b, _ := bank.New(2)
	l := job.Of(0, []bank.Write{{At: 0, S: holding(8)}, {At: 2}, {At: 1, S: holding(0)}})
	j := job.New(l)
	tries := 0
	do := func(m job.Move) api.Errno {
		tries++
		return b.Do(m.W)
	}
	if n, e := j.Run(do, 3); n != 1 || e != api.ErrSlot {
		t.Fatalf("Run up to the write: %d, %v", n, e)
	}
	for range 3 {
		if n, e := j.Run(do, 3); n != 0 || e != api.ErrSlot {
			t.Fatalf("Run of the write: %d, %v", n, e)
		}
		if e := j.Step(do); e != api.ErrSlot {
			t.Fatalf("Step of the write: %v", e)
		}
	}
	checkLeft(t, "the write that is refused", j, l[1:])
	if tries != 8 || b.Writes() != 1 {
		t.Errorf("%d tries, %d writes", tries, b.Writes())
	}
}

// TestLong has far more moves than a change of the table needs.
func TestLong(t *testing.T) { // P15.1, P15.2
	const many = 200_000
	l := numbered(many)
	j := job.New(l)
	other := j.Copy()
	k := 0
	do := func(m job.Move) api.Errno {
		if m != l[k] {
			t.Fatalf("move %d is %v", k, m)
		}
		k++
		return api.OK
	}
	for range many / 2 {
		if e := j.Step(do); e != api.OK {
			t.Fatalf("Step: %v", e)
		}
	}
	checkLeft(t, "half of a long job", j, l[many/2:])
	if n, e := j.Run(do, math.MaxInt); n != many/2 || e != api.OK || k != many {
		t.Fatalf("Run of a long job: %d, %v", n, e)
	}
	checkLeft(t, "a long job", j, nil)
	checkLeft(t, "the copy of a long job", other, l)
	if n, e := other.Run(fine, many-1); n != many-1 || e != api.OK || other.Left() != 1 {
		t.Errorf("Run of all but one: %d, %v", n, e)
	}
	moves := job.Of(4, make([]bank.Write, many))
	if len(moves) != many || moves[many-1] != (job.Move{Bank: 4}) {
		t.Errorf("Of a long list: %d", len(moves))
	}
}

func TestExample(t *testing.T) { // example 1
	j := job.New(numbered(3))
	if n, e := j.Run(fine, 2); n != 2 || e != api.OK || j.Left() != 1 {
		t.Errorf("the example: %d, %v, %d left", n, e, j.Left())
	}
}
