package sched

import (
	"math"
	"slices"
	"testing"

	"mallow/api"
)

// lock, unlock, .. write a step as the chapter does.
func lock(a int) api.Step     { return api.Step{Op: api.Lock, A: a} }
func unlock(a int) api.Step   { return api.Step{Op: api.Unlock, A: a} }
func add(a, b int) api.Step   { return api.Step{Op: api.Add, A: a, B: b} }
func await(a, b int) api.Step { return api.Step{Op: api.Await, A: a, B: b} }
func say(a int) api.Step      { return api.Step{Op: api.Say, A: a} }

func made(t *testing.T, tasks ...[]api.Step) *Sched {
	t.Helper()
	s, e := New(tasks)
	if s == nil || e != api.OK {
		t.Fatalf("New of %d tasks: %v, %d", len(tasks), s, e)
	}
	return s
}

func wantGo(t *testing.T, s *Sched, pick, task int, code api.Errno) {
	t.Helper()
	if got, e := s.Go(pick); got != task || e != code {
		t.Errorf("Go(%d): %d, %d; want %d, %d", pick, got, e, task, code)
	}
}

func wantPlay(t *testing.T, s *Sched, picks []int, done int, code api.Errno) {
	t.Helper()
	if got, e := s.Play(picks); got != done || e != code {
		t.Errorf("Play(%v): %d, %d; want %d, %d", picks, got, e, done, code)
	}
}

func wantEnabled(t *testing.T, s *Sched, want ...int) {
	t.Helper()
	if got := s.Enabled(); !slices.Equal(got, want) {
		t.Errorf("Enabled: %v; want %v", got, want)
	}
}

func wantSaid(t *testing.T, s *Sched, want ...int) {
	t.Helper()
	if got := s.Said(); !slices.Equal(got, want) {
		t.Errorf("Said: %v; want %v", got, want)
	}
}

func wantLeft(t *testing.T, s *Sched, want ...int) {
	t.Helper()
	for task, w := range want {
		if got, e := s.Left(task); got != w || e != api.OK {
			t.Errorf("Left(%d): %d, %d; want %d", task, got, e, w)
		}
	}
}

func wantHolder(t *testing.T, s *Sched, lock, task int, held bool) {
	t.Helper()
	if got, ok := s.Holder(lock); got != task || ok != held {
		t.Errorf("Holder(%d): %d, %v; want %d, %v", lock, got, ok, task, held)
	}
}

func wantCell(t *testing.T, s *Sched, c, want int) {
	t.Helper()
	if got := s.Cell(c); got != want {
		t.Errorf("Cell(%d): %d; want %d", c, got, want)
	}
}

// 4.1: the steps.

func TestLock(t *testing.T) {
	s := made(t, []api.Step{lock(4), say(1)}, []api.Step{lock(4), say(2)}, []api.Step{lock(5)})
	wantHolder(t, s, 4, 0, false)
	wantEnabled(t, s, 0, 1, 2)
	wantGo(t, s, 1, 1, api.OK)
	wantHolder(t, s, 4, 1, true)
	wantHolder(t, s, 5, 0, false)
	wantEnabled(t, s, 1, 2)
	wantGo(t, s, 1, 2, api.OK)
	wantHolder(t, s, 5, 2, true)
	wantGo(t, s, 0, 1, api.OK)
	// A task that has ended still holds what it has not opened.
	wantHolder(t, s, 4, 1, true)
	wantEnabled(t, s)
	wantGo(t, s, 0, 0, api.ErrStuck)
}

func TestLockOfWhatTheTaskHolds(t *testing.T) {
	s := made(t, []api.Step{lock(0), lock(0), unlock(0)})
	wantGo(t, s, 0, 0, api.OK)
	wantEnabled(t, s)
	wantGo(t, s, 0, 0, api.ErrStuck)
	wantLeft(t, s, 2)
	wantHolder(t, s, 0, 0, true)
}

func TestUnlock(t *testing.T) {
	s := made(t, []api.Step{lock(1), lock(2), unlock(1), lock(1), unlock(2), unlock(1)}, []api.Step{lock(1), unlock(1)})
	wantPlay(t, s, []int{0, 0, 0}, 3, api.OK)
	wantHolder(t, s, 1, 0, false)
	wantHolder(t, s, 2, 0, true)
	wantEnabled(t, s, 0, 1)
	wantGo(t, s, 1, 1, api.OK)
	wantHolder(t, s, 1, 1, true)
	wantEnabled(t, s, 1)
	wantPlay(t, s, []int{0, 0, 0, 0}, 4, api.OK)
	wantHolder(t, s, 1, 0, false)
	wantHolder(t, s, 2, 0, false)
	wantGo(t, s, 0, 0, api.ErrDone)
}

func TestAddAndAwait(t *testing.T) {
	s := made(t,
		[]api.Step{await(3, 5), say(1)},
		[]api.Step{add(3, 4), add(3, 1), add(3, -1), add(3, 7)},
		[]api.Step{await(3, 0), await(3, math.MinInt), await(3, 6), say(2)},
	)
	wantCell(t, s, 3, 0)
	wantEnabled(t, s, 1, 2)
	wantPlay(t, s, []int{1, 1}, 2, api.OK)
	wantEnabled(t, s, 1)
	wantGo(t, s, 0, 1, api.OK)
	wantCell(t, s, 3, 4)
	wantEnabled(t, s, 1)
	wantGo(t, s, 0, 1, api.OK)
	wantCell(t, s, 3, 5)
	wantEnabled(t, s, 0, 1) // exactly reached
	wantGo(t, s, 1, 1, api.OK)
	wantCell(t, s, 3, 4)
	wantEnabled(t, s, 1) // lowered again
	wantGo(t, s, 0, 1, api.OK)
	wantCell(t, s, 3, 11)
	wantEnabled(t, s, 0, 2)
	wantPlay(t, s, []int{0, 0, 0, 0}, 4, api.OK)
	wantCell(t, s, 3, 11) // Await leaves it
	wantSaid(t, s, 1, 2)
}

func TestAwaitOfWhatIsBelow0(t *testing.T) {
	s := made(t, []api.Step{await(0, -3)}, []api.Step{add(0, -4), add(0, 1)})
	wantEnabled(t, s, 0, 1)
	wantGo(t, s, 1, 1, api.OK)
	wantEnabled(t, s, 1)
	wantGo(t, s, 0, 1, api.OK)
	wantEnabled(t, s, 0)
	wantCell(t, s, 0, -3)
}

func TestCellsWrapRound(t *testing.T) {
	for _, x := range []struct{ first, then, want int }{
		{math.MaxInt, 1, math.MinInt},
		{math.MaxInt, math.MaxInt, -2},
		{math.MinInt, -1, math.MaxInt},
		{math.MinInt, math.MinInt, 0},
		{math.MinInt, math.MaxInt, -1},
		{math.MaxInt, math.MinInt + 1, 0},
		{5, -5, 0},
		{0, 0, 0},
	} {
		s := made(t, []api.Step{add(9, x.first), add(9, x.then), add(9, 1)}, []api.Step{await(9, x.want)})
		wantPlay(t, s, []int{0}, 1, api.OK)
		wantCell(t, s, 9, x.first)
		wantPlay(t, s, []int{0}, 1, api.OK)
		wantCell(t, s, 9, x.want)
		wantEnabled(t, s, 0, 1)
		wantPlay(t, s, []int{0}, 1, api.OK)
		wantCell(t, s, 9, x.want+1)
	}
	// What wraps round lowers a cell, too.
	s := made(t, []api.Step{add(0, math.MaxInt), add(0, 1)}, []api.Step{await(0, math.MaxInt)})
	wantGo(t, s, 0, 0, api.OK)
	wantEnabled(t, s, 0, 1)
	wantGo(t, s, 0, 0, api.OK)
	wantEnabled(t, s)
}

func TestSay(t *testing.T) {
	s := made(t, []api.Step{say(3), say(3), say(math.MinInt)}, []api.Step{say(math.MaxInt), say(0)})
	wantSaid(t, s)
	wantPlay(t, s, []int{0, 1, 0, 0, 0}, 5, api.OK)
	wantSaid(t, s, 3, math.MaxInt, 3, math.MinInt, 0)
}

func TestBSaysNothingWhereItIsNotNamed(t *testing.T) {
	for _, b := range []int{math.MinInt, -1, 1, math.MaxInt} {
		s := made(t,
			[]api.Step{{Op: api.Lock, A: 1, B: b}, {Op: api.Say, A: 2, B: b}, {Op: api.Unlock, A: 1, B: -b}},
			[]api.Step{{Op: api.Lock, A: 1, B: b}},
		)
		wantEnabled(t, s, 0, 1)
		wantGo(t, s, 0, 0, api.OK)
		wantHolder(t, s, 1, 0, true)
		wantHolder(t, s, b, 0, b == 1)
		wantEnabled(t, s, 0)
		wantPlay(t, s, []int{0, 0, 0}, 3, api.OK)
		wantSaid(t, s, 2)
		wantHolder(t, s, 1, 1, true)
	}
}

func TestLocksAndCellsOfAnyNumber(t *testing.T) {
	numbers := []int{math.MinInt, -1 << 40, -65, -1, 0, 1, 64, 1 << 40, math.MaxInt}
	for _, n := range numbers {
		s := made(t, []api.Step{lock(n), add(n, 7), await(n, 7), unlock(n)}, []api.Step{lock(n), await(n, 8)})
		wantEnabled(t, s, 0, 1)
		wantGo(t, s, 0, 0, api.OK)
		wantEnabled(t, s, 0)
		wantGo(t, s, 0, 0, api.OK)
		for _, other := range numbers {
			cell := 0
			if other == n {
				cell = 7
			}
			wantHolder(t, s, other, 0, other == n)
			wantCell(t, s, other, cell)
		}
		wantPlay(t, s, []int{0, 0, 0}, 3, api.OK)
		wantHolder(t, s, n, 1, true)
		wantGo(t, s, 0, 0, api.ErrStuck)
	}
}

func TestLocksAndCellsAreApart(t *testing.T) {
	s := made(t, []api.Step{lock(6), add(6, -2)}, []api.Step{await(6, 0)})
	wantGo(t, s, 0, 0, api.OK)
	wantCell(t, s, 6, 0)
	wantEnabled(t, s, 0, 1)
	wantGo(t, s, 0, 0, api.OK)
	wantHolder(t, s, 6, 0, true)
	wantCell(t, s, 6, -2)
}

// 4.2: New.

// says are tasks of that many steps that say something.
func says(lengths ...int) [][]api.Step {
	var out [][]api.Step
	for _, n := range lengths {
		out = append(out, slices.Repeat([]api.Step{say(1)}, n))
	}
	return out
}

func TestNew(t *testing.T) {
	wrong := says(10001)
	wrong[0][3].Op = 9
	wrongOfMany := says(make([]int, 65)...)
	wrongOfMany[64] = []api.Step{{}}
	lastIsWrong := says(make([]int, 64)...)
	lastIsWrong[63] = append(says(9999)[0], api.Step{Op: 6})
	spread := make([]int, 64)
	for i := range spread {
		spread[i] = 156
	}
	spread[63] += 16 // 10000 in all
	over := slices.Clone(spread)
	over[0]++
	for _, x := range []struct {
		what  string
		tasks [][]api.Step
		code  api.Errno
	}{
		{"nil", nil, api.OK},
		{"none", [][]api.Step{}, api.OK},
		{"one without steps", says(0), api.OK},
		{"64 without steps", says(make([]int, 64)...), api.OK},
		{"65 without steps", says(make([]int, 65)...), api.ErrLong},
		{"70000 without steps", make([][]api.Step, 70000), api.ErrLong},
		{"10000 steps of one", says(10000), api.OK},
		{"10001 steps of one", says(10001), api.ErrLong},
		{"10000 steps of three", says(4000, 0, 6000), api.OK},
		{"10001 steps of three", says(4000, 1, 6000), api.ErrLong},
		{"10000 steps of 64", says(spread...), api.OK},
		{"10001 steps of 64", says(over...), api.ErrLong},
		{"Op 0", [][]api.Step{{{}}}, api.ErrArg},
		{"Op 6", [][]api.Step{{{Op: 6}}}, api.ErrArg},
		{"Op -1", [][]api.Step{{{Op: -1}}}, api.ErrArg},
		{"the lowest Op", [][]api.Step{{{Op: math.MinInt}}}, api.ErrArg},
		{"the greatest Op", [][]api.Step{{{Op: math.MaxInt}}}, api.ErrArg},
		{"a wrong Op far behind", [][]api.Step{{say(1)}, {}, {lock(1), unlock(1), {Op: 7, A: 1}}}, api.ErrArg},
		{"a wrong Op as the last of 10000", lastIsWrong, api.ErrArg},
		{"a wrong Op among too many steps", wrong, api.ErrLong},
		{"a wrong Op among too many tasks", wrongOfMany, api.ErrLong},
	} {
		s, e := New(x.tasks)
		if e != x.code || (s != nil) != (e == api.OK) {
			t.Errorf("New, %s: %v, %d; want %d", x.what, s != nil, e, x.code)
		}
		if e == api.OK {
			wantNothingDone(t, s, x.tasks)
		}
	}
	for op := api.Lock; op <= api.Say; op++ {
		wantNothingDone(t, made(t, []api.Step{{Op: op}}), [][]api.Step{{{Op: op}}})
	}
}

func wantNothingDone(t *testing.T, s *Sched, tasks [][]api.Step) {
	t.Helper()
	for i, steps := range tasks {
		if n, e := s.Left(i); n != len(steps) || e != api.OK {
			t.Errorf("Left(%d): %d, %d; want %d", i, n, e, len(steps))
		}
		for _, step := range steps {
			wantHolder(t, s, step.A, 0, false)
			wantCell(t, s, step.A, 0)
		}
	}
	wantSaid(t, s)
}

// 4.3: Enabled.

func TestEnabled(t *testing.T) {
	s := made(t,
		[]api.Step{},
		[]api.Step{lock(0)},
		[]api.Step{await(0, 1)},
		[]api.Step{unlock(8)}, // an Unlock never waits
		[]api.Step{add(0, 1)},
		nil,
		[]api.Step{say(0)},
		[]api.Step{lock(0)},
		[]api.Step{await(0, 0)},
	)
	wantEnabled(t, s, 1, 3, 4, 6, 7, 8)
	wantEnabled(t, s, 1, 3, 4, 6, 7, 8) // asking does nothing
	wantGo(t, s, 2, 4, api.OK)
	wantEnabled(t, s, 1, 2, 3, 6, 7, 8)
	wantGo(t, s, 4, 7, api.OK)
	wantEnabled(t, s, 2, 3, 6, 8)
	wantGo(t, s, 1, 3, api.ErrLock)
	wantEnabled(t, s)
	wantEnabled(t, made(t))
	wantEnabled(t, made(t, nil, nil))
}

func TestEnabledOf64(t *testing.T) {
	var tasks [][]api.Step
	var all []int
	for i := range 64 {
		tasks = append(tasks, []api.Step{say(i)})
		all = append(all, i)
	}
	s := made(t, tasks...)
	wantEnabled(t, s, all...)
	for i := 63; i >= 0; i-- {
		wantGo(t, s, -1, i, api.OK)
		wantEnabled(t, s, all[:i]...)
	}
	slices.Reverse(all)
	wantSaid(t, s, all...)
}

// 4.4: Go.

func TestGoPicks(t *testing.T) {
	// Tasks 1, 3 and 4 are enabled; the others have ended, or wait.
	tasks := [][]api.Step{{}, {say(1)}, {await(0, 1)}, {say(3)}, {say(4)}, {await(1, 9)}}
	for _, x := range []struct{ pick, task int }{
		{0, 1}, {1, 3}, {2, 4},
		{3, 1}, {4, 3}, {5, 4}, {300, 1}, {301, 3}, {302, 4},
		{-1, 4}, {-2, 3}, {-3, 1}, {-4, 4}, {-5, 3}, {-6, 1}, {-300, 1}, {-301, 4},
		// 2^63 is 2 above a multiple of 3.
		{math.MaxInt, 3}, {math.MaxInt - 1, 1}, {math.MinInt, 3}, {math.MinInt + 1, 4}, {math.MinInt + 2, 1},
	} {
		s := made(t, tasks...)
		wantGo(t, s, x.pick, x.task, api.OK)
		wantSaid(t, s, x.task)
	}
}

func TestGoPicksAmongAnyNumber(t *testing.T) {
	picks := []int{math.MinInt, math.MinInt + 1, -129, -65, -64, -63, -1, 0, 1, 63, 64, 65, 129, math.MaxInt - 1, math.MaxInt}
	for n := 1; n <= 64; n++ {
		for _, pick := range picks {
			s := made(t, slices.Repeat([][]api.Step{{say(0)}}, n)...)
			// The bits of pick as a number of 64 bits are 2^64 more than one below 0 is.
			want := int(uint64(pick) % uint64(n))
			if pick < 0 {
				rest := (uint64(math.MaxUint64)%uint64(n) + 1) % uint64(n)
				want = int((uint64(want) + uint64(n) - rest) % uint64(n))
			}
			wantGo(t, s, pick, want, api.OK)
		}
	}
}

func TestGoErrors(t *testing.T) {
	for _, pick := range []int{math.MinInt, -1, 0, 1, math.MaxInt} {
		for _, tasks := range [][][]api.Step{nil, {nil}, {{}, {}, {}}} {
			wantGo(t, made(t, tasks...), pick, 0, api.ErrDone)
		}
		s := made(t, []api.Step{say(1)})
		wantGo(t, s, pick, 0, api.OK)
		wantGo(t, s, pick, 0, api.ErrDone)
		s = made(t, nil, []api.Step{await(0, 1)}, []api.Step{await(5, 1)})
		wantGo(t, s, pick, 0, api.ErrStuck)
		wantGo(t, s, pick, 0, api.ErrStuck)
		wantLeft(t, s, 0, 1, 1)
	}
}

func TestTheEndOfAll(t *testing.T) {
	for _, x := range []struct {
		what  string
		tasks [][]api.Step
		picks []int // the last one is the end
		task  int
	}{
		{"nobody's", [][]api.Step{{say(1)}, {unlock(3), say(2)}}, []int{1}, 1},
		{"another one's", [][]api.Step{{lock(3), say(1)}, {unlock(3), say(2)}}, []int{0, 1}, 1},
		{"task 0's, by another one", [][]api.Step{{lock(0)}, {say(1)}, {unlock(0)}}, []int{0, 1}, 2},
		{"opened twice", [][]api.Step{{lock(3), unlock(3), unlock(3)}, {say(1)}}, []int{0, 0, 0}, 0},
		{"another lock", [][]api.Step{{lock(3), unlock(4)}, {say(1)}}, []int{0, 0}, 0},
		{"as the last step of all", [][]api.Step{{}, {unlock(-1)}}, []int{5}, 1},
		{"while another one waits", [][]api.Step{{await(0, 1)}, {unlock(1)}}, []int{0}, 1},
	} {
		s := made(t, x.tasks...)
		last := len(x.picks) - 1
		wantPlay(t, s, x.picks[:last], last, api.OK)
		left, holders, cells := leftOf(s), holdersOf(s), cellsOf(s)
		said := s.Said()
		wantGo(t, s, x.picks[last], x.task, api.ErrLock)
		for _, pick := range []int{0, -1, 1, 7, math.MinInt} {
			wantEnabled(t, s)
			wantGo(t, s, pick, 0, api.ErrLock)
			wantPlay(t, s, []int{pick, 0}, 0, api.ErrLock)
		}
		wantPlay(t, s, nil, 0, api.OK)
		if !slices.Equal(left, leftOf(s)) || !slices.Equal(holders, holdersOf(s)) || !slices.Equal(cells, cellsOf(s)) || !slices.Equal(said, s.Said()) {
			t.Errorf("%s: the end of all has changed something", x.what)
		}
	}
}

func leftOf(s *Sched) []int {
	var out []int
	for i := 0; ; i++ {
		n, e := s.Left(i)
		if e != api.OK {
			return out
		}
		out = append(out, n)
	}
}

// near are the locks and cells that the tests here tell of.
const near = 12

func holdersOf(s *Sched) []int {
	var out []int
	for lock := -near; lock <= near; lock++ {
		task, held := s.Holder(lock)
		if !held {
			task--
		}
		out = append(out, task)
	}
	return out
}

func cellsOf(s *Sched) []int {
	var out []int
	for c := -near; c <= near; c++ {
		out = append(out, s.Cell(c))
	}
	return out
}

// Only an end of the tasks is one: a fault of the program itself is not taken for it.
func TestOtherPanicsAreNotTheEndOfAll(t *testing.T) {
	s := made(t, []api.Step{say(1)})
	func() {
		defer func() {
			if recover() == nil {
				t.Error("a step of no task")
			}
		}()
		s.advance(1)
	}()
	wantGo(t, s, 0, 0, api.OK)
}

// 4.5: Play.

func TestPlay(t *testing.T) {
	for _, x := range []struct {
		what  string
		tasks [][]api.Step
		picks []int
		done  int
		code  api.Errno
		said  []int
	}{
		{"no picks", [][]api.Step{{say(1)}}, nil, 0, api.OK, nil},
		{"no picks where all have ended", nil, []int{}, 0, api.OK, nil},
		{"no picks where all wait", [][]api.Step{{await(0, 1)}}, nil, 0, api.OK, nil},
		{"fewer picks than steps", [][]api.Step{{say(1), say(2)}, {say(3)}}, []int{1, 0}, 2, api.OK, []int{3, 1}},
		{"as many picks as steps", [][]api.Step{{say(1), say(2)}, {say(3)}}, []int{0, -1, 6}, 3, api.OK, []int{1, 3, 2}},
		{"one pick too many", [][]api.Step{{say(1)}, {say(2)}}, []int{0, 0, 0}, 2, api.ErrDone, []int{1, 2}},
		{"many picks too many", [][]api.Step{{say(1)}, {say(2)}}, make([]int, 100), 2, api.ErrDone, []int{1, 2}},
		{"a pick where there is no task", nil, []int{4}, 0, api.ErrDone, nil},
		{"stuck at first", [][]api.Step{{await(0, 1)}}, []int{0}, 0, api.ErrStuck, nil},
		{"stuck later", [][]api.Step{{say(1), lock(0), lock(0), say(2)}}, []int{0, 0, 0, 0}, 2, api.ErrStuck, []int{1}},
		{"the end of all at first", [][]api.Step{{unlock(0)}}, []int{0, 0}, 0, api.ErrLock, nil},
		{"the end of all later", [][]api.Step{{say(1), unlock(0), say(2)}, {say(3)}}, []int{0, 1, 0, 0}, 2, api.ErrLock, []int{1, 3}},
		{"the end of all by task 1", [][]api.Step{{say(1)}, {unlock(0)}}, []int{0, 0}, 1, api.ErrLock, []int{1}},
	} {
		s := made(t, x.tasks...)
		if done, e := s.Play(x.picks); done != x.done || e != x.code {
			t.Errorf("%s: Play: %d, %d; want %d, %d", x.what, done, e, x.done, x.code)
		}
		wantSaid(t, s, x.said...)
		if x.code != api.OK {
			wantGo(t, s, 0, 0, x.code)
		}
	}
}

func TestPlayOf10000(t *testing.T) {
	s := made(t, says(10000)...)
	wantPlay(t, s, make([]int, 9999), 9999, api.OK)
	wantLeft(t, s, 1)
	wantPlay(t, s, make([]int, 9999), 1, api.ErrDone)
	if n := len(s.Said()); n != 10000 {
		t.Errorf("said %d", n)
	}
}

// 4.6: Left, Holder, Cell, Said.

func TestLeft(t *testing.T) {
	s := made(t, []api.Step{say(1), say(2), unlock(0)}, nil, []api.Step{say(3)})
	wantLeft(t, s, 3, 0, 1)
	wantPlay(t, s, []int{0, 1, 0}, 3, api.OK)
	wantLeft(t, s, 1, 0, 0)
	for range 2 {
		for _, task := range []int{math.MinInt, -1, 3, 64, math.MaxInt} {
			if n, e := s.Left(task); n != 0 || e != api.ErrArg {
				t.Errorf("Left(%d): %d, %d", task, n, e)
			}
		}
		// Behind the end of all the step that was it has not been done.
		s.Go(0)
		wantLeft(t, s, 1, 0, 0)
	}
	if n, e := made(t).Left(0); n != 0 || e != api.ErrArg {
		t.Errorf("Left of no task: %d, %d", n, e)
	}
}

func TestAskingDoesNothing(t *testing.T) {
	s := made(t, []api.Step{lock(0), add(0, 1)}, []api.Step{lock(1), await(0, 1)})
	for range 3 {
		s.Holder(0)
		s.Holder(7)
		s.Cell(0)
		s.Cell(-7)
		s.Left(0)
		s.Said()
		wantEnabled(t, s, 0, 1)
		wantLeft(t, s, 2, 2)
		wantHolder(t, s, 0, 0, false)
		wantCell(t, s, 0, 0)
	}
	if len(s.holders) != 0 || len(s.cells) != 0 {
		t.Error("what is only asked is kept")
	}
}

// R3: what is handed in is not changed and not kept; what is answered is new.

func TestWhatIsHandedIn(t *testing.T) {
	room := []api.Step{say(1), say(2), {Op: 77, A: 5}}
	outer := [][]api.Step{room[:2], {say(3)}, {{Op: 99}}}
	was := slices.Clone(room)
	s, e := New(outer[:2]) // what lies behind a length is not read
	if e != api.OK {
		t.Fatalf("New: %d", e)
	}
	twin, _ := New([][]api.Step{room[:2:2], {say(3)}})
	room[1] = unlock(9)
	outer[1] = nil
	picks := []int{-1, 8, 8, 8}
	for _, x := range []*Sched{s, twin} {
		wantPlay(t, x, picks[:2], 2, api.OK)
		wantPlay(t, x, picks[2:], 1, api.ErrDone)
		wantSaid(t, x, 3, 1, 2)
	}
	if !slices.Equal(picks, []int{-1, 8, 8, 8}) {
		t.Error("the picks were changed: ", picks)
	}
	room[1] = was[1]
	if !slices.Equal(room, was) || outer[2][0].Op != 99 {
		t.Error("the steps were changed: ", room)
	}
}

func TestTasksOfOneList(t *testing.T) {
	steps := []api.Step{say(1), say(2)}
	s := made(t, steps, steps, steps[1:])
	wantPlay(t, s, []int{0, 1, 2, 1, 0}, 5, api.OK)
	wantSaid(t, s, 1, 1, 2, 2, 2)
	if !slices.Equal(steps, []api.Step{say(1), say(2)}) {
		t.Error("the steps were changed: ", steps)
	}
}

func TestWhatIsAnswered(t *testing.T) {
	s := made(t, []api.Step{say(1), say(2), say(3), say(4)}, []api.Step{say(5)})
	spoil := func(l []int) {
		l = l[:cap(l)]
		for i := range l {
			l[i] = -9
		}
	}
	var want []int
	for i := 1; i <= 4; i++ {
		spoil(s.Said())
		spoil(s.Enabled())
		a, b := s.Said(), s.Said()
		spoil(a)
		wantSaid(t, s, want...)
		if !slices.Equal(b, want) {
			t.Error("two answers share memory: ", b)
		}
		wantEnabled(t, s, 0, 1)
		wantGo(t, s, 0, 0, api.OK)
		want = append(want, i)
	}
	spoil(s.Said())
	wantSaid(t, s, 1, 2, 3, 4)
}

// R4: one machine knows nothing of another.

func TestMachinesAreApart(t *testing.T) {
	tasks := [][]api.Step{{lock(0), add(0, 1), say(1)}, {lock(0), await(0, 1), say(2)}}
	a, b := made(t, tasks...), made(t, tasks...)
	wantPlay(t, a, []int{0, 0, 0}, 3, api.OK)
	wantEnabled(t, b, 0, 1)
	wantHolder(t, b, 0, 0, false)
	wantCell(t, b, 0, 0)
	wantSaid(t, b)
	c := made(t, []api.Step{unlock(0)})
	wantGo(t, c, 0, 0, api.ErrLock)
	wantGo(t, b, 1, 1, api.OK)
	wantHolder(t, a, 0, 0, true)
	wantHolder(t, b, 0, 1, true)
}

// R6: locks that are open and cells that are 0 again are not kept.

func TestWhatIsKept(t *testing.T) {
	var steps []api.Step
	for i := range 2500 {
		n := i * 1_000_003
		steps = append(steps, lock(n), add(n, 5), add(n, -5), unlock(n))
	}
	s := made(t, steps)
	wantPlay(t, s, make([]int, 10000), 10000, api.OK)
	if len(s.holders) != 0 || len(s.cells) != 0 {
		t.Errorf("%d locks and %d cells are kept", len(s.holders), len(s.cells))
	}
}

// R1: a machine that New has not made is one without tasks.

func TestZeroValue(t *testing.T) {
	var s Sched
	wantEnabled(t, &s)
	wantGo(t, &s, 3, 0, api.ErrDone)
	wantPlay(t, &s, []int{1}, 0, api.ErrDone)
	wantHolder(t, &s, 0, 0, false)
	wantCell(t, &s, 0, 0)
	wantSaid(t, &s)
	if _, e := s.Left(0); e != api.ErrArg {
		t.Errorf("Left: %d", e)
	}
}

// The chapter's examples.

func TestExamples(t *testing.T) {
	s := made(t, []api.Step{lock(0), say(1), unlock(0)}, []api.Step{lock(0), say(2), unlock(0)})
	wantEnabled(t, s, 0, 1)
	wantGo(t, s, 1, 1, api.OK)
	wantEnabled(t, s, 1)
	wantHolder(t, s, 0, 1, true)
	wantPlay(t, s, []int{0, 0, 0, 0, 0, 0}, 5, api.ErrDone)
	wantSaid(t, s, 2, 1)
	s = made(t, []api.Step{unlock(3)})
	wantGo(t, s, 0, 0, api.ErrLock)
	wantGo(t, s, 0, 0, api.ErrLock)
	wantGo(t, made(t, []api.Step{await(0, 1)}), 0, 0, api.ErrStuck)
}
