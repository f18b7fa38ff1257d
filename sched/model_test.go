package sched

import (
	"math"
	"slices"
	"testing"

	"mallow/api"
)

// model keeps nothing but which tasks have done a step, in order: whatever is
// asked of it is worked out from there, by the words of 4.1 to 4.6.
type model struct {
	tasks [][]api.Step
	done  []int
	over  bool
}

// past are the steps that were done, each with its task.
func (m *model) past() (steps []api.Step, whose []int) {
	next := make([]int, len(m.tasks))
	for _, task := range m.done {
		steps = append(steps, m.tasks[task][next[task]])
		next[task]++
	}
	return steps, m.done
}

func (m *model) ahead(task int) []api.Step {
	n := 0
	for _, d := range m.done {
		if d == task {
			n++
		}
	}
	return m.tasks[task][n:]
}

func (m *model) holder(lock int) (int, bool) {
	steps, whose := m.past()
	for i := len(steps) - 1; i >= 0; i-- {
		if steps[i].A == lock && steps[i].Op == api.Unlock {
			return 0, false
		}
		if steps[i].A == lock && steps[i].Op == api.Lock {
			return whose[i], true
		}
	}
	return 0, false
}

func (m *model) cell(c int) int {
	var sum uint64
	steps, _ := m.past()
	for _, s := range steps {
		if s.Op == api.Add && s.A == c {
			sum += uint64(s.B)
		}
	}
	return int(sum)
}

func (m *model) said() []int {
	var out []int
	steps, _ := m.past()
	for _, s := range steps {
		if s.Op == api.Say {
			out = append(out, s.A)
		}
	}
	return out
}

func (m *model) waits(task int) bool {
	s := m.ahead(task)[0]
	_, held := m.holder(s.A)
	return s.Op == api.Lock && held || s.Op == api.Await && m.cell(s.A) < s.B
}

func (m *model) enabled() []int {
	var out []int
	for task := range m.tasks {
		if !m.over && len(m.ahead(task)) > 0 && !m.waits(task) {
			out = append(out, task)
		}
	}
	return out
}

func (m *model) step(pick int) (int, api.Errno) {
	if m.over {
		return 0, api.ErrLock
	}
	ended := true
	for task := range m.tasks {
		ended = ended && len(m.ahead(task)) == 0
	}
	if ended {
		return 0, api.ErrDone
	}
	able := m.enabled()
	if len(able) == 0 {
		return 0, api.ErrStuck
	}
	n := len(able)
	task := able[(pick%n+n)%n]
	s := m.ahead(task)[0]
	if holder, held := m.holder(s.A); s.Op == api.Unlock && (!held || holder != task) {
		m.over = true
		return task, api.ErrLock
	}
	m.done = append(m.done, task)
	return task, api.OK
}

// noise is a row of numbers that look drawn, and are always the same.
type noise uint64

func (n *noise) next() uint64 {
	*n ^= *n << 13
	*n ^= *n >> 7
	*n ^= *n << 17
	return uint64(*n)
}

func (n *noise) below(limit int) int { return int(n.next() % uint64(limit)) }

// number is a lock's or cell's: a few, so that tasks meet at them.
func (n *noise) number() int { return n.below(4) - 2 }

// amount is mostly small, so that cells are often just reached.
func (n *noise) amount() int {
	switch n.below(16) {
	case 0:
		return math.MaxInt - n.below(3)
	case 1:
		return math.MinInt + n.below(3)
	}
	return n.below(9) - 4
}

func (n *noise) pick() int {
	if n.below(8) == 0 {
		return int(n.next())
	}
	return n.below(9) - 4
}

// tasks are some whose locks are mostly opened by those that hold them.
func (n *noise) tasks() [][]api.Step {
	out := make([][]api.Step, n.below(6))
	for i := range out {
		var held []int
		for range n.below(12) {
			kind := n.below(20)
			switch {
			case kind < 5:
				held = append(held, n.number())
				out[i] = append(out[i], lock(held[len(held)-1]))
			case kind < 10 && len(held) > 0:
				at := n.below(len(held))
				out[i] = append(out[i], unlock(held[at]))
				held = slices.Delete(held, at, at+1)
			case kind < 13:
				out[i] = append(out[i], add(n.number(), n.amount()))
			case kind < 16:
				out[i] = append(out[i], await(n.number(), n.amount()))
			case kind < 19:
				out[i] = append(out[i], say(100*i+len(out[i])))
			default:
				out[i] = append(out[i], unlock(n.number()))
			}
		}
	}
	return out
}

func wantSame(t *testing.T, s *Sched, m *model) {
	t.Helper()
	wantEnabled(t, s, m.enabled()...)
	wantSaid(t, s, m.said()...)
	for task := range m.tasks {
		if got, e := s.Left(task); got != len(m.ahead(task)) || e != api.OK {
			t.Errorf("Left(%d): %d, %d; want %d", task, got, e, len(m.ahead(task)))
		}
	}
	for number := -3; number <= 2; number++ {
		task, held := m.holder(number)
		wantHolder(t, s, number, task, held)
		wantCell(t, s, number, m.cell(number))
	}
}

// 4.1 to 4.6 against the model, with ends of all kinds.
func TestAgainstModel(t *testing.T) {
	n := noise(88172645463325252)
	ends := map[api.Errno]int{}
	for range 4000 {
		tasks := n.tasks()
		s, m := made(t, tasks...), &model{tasks: tasks}
		wantSame(t, s, m)
		for refused := 0; refused < 2; { // the second time it must be refused alike
			pick := n.pick()
			task, want := m.step(pick)
			wantGo(t, s, pick, task, want)
			wantSame(t, s, m)
			if want != api.OK {
				ends[want]++
				refused++
			}
		}
		if t.Failed() {
			t.Fatalf("tasks %v, done %v", tasks, m.done)
		}
	}
	for _, code := range []api.Errno{api.ErrLock, api.ErrDone, api.ErrStuck} {
		if ends[code] < 400 {
			t.Errorf("only %d ends with %d: the tasks are too much alike", ends[code]/2, code)
		}
	}
}

// 4.5: Play is Go, pick by pick.
func TestPlayIsGo(t *testing.T) {
	n := noise(2463534242)
	for range 4000 {
		tasks := n.tasks()
		a, b := made(t, tasks...), made(t, tasks...)
		for range 3 {
			picks := make([]int, n.below(25))
			for i := range picks {
				picks[i] = n.pick()
			}
			done, code := 0, api.OK
			for _, pick := range picks {
				if _, code = a.Go(pick); code != api.OK {
					break
				}
				done++
			}
			wantPlay(t, b, picks, done, code)
			wantSaid(t, b, a.Said()...)
			wantEnabled(t, b, a.Enabled()...)
			if !slices.Equal(leftOf(a), leftOf(b)) || !slices.Equal(holdersOf(a), holdersOf(b)) || !slices.Equal(cellsOf(a), cellsOf(b)) {
				t.Fatalf("Play(%v) of %v is not Go", picks, tasks)
			}
		}
	}
}

// 4.7: what follows.

func TestWhatFollows(t *testing.T) {
	n := noise(123456789123)
	for range 4000 {
		tasks := n.tasks()
		s := made(t, tasks...)
		holds := map[int]int{} // by the steps that Go tells of alone
		for {
			before, left := s.Enabled(), leftOf(s)
			cells := cellsOf(s)
			task, code := s.Go(n.pick())
			if code != api.OK {
				wantAllWait(t, s, tasks, code)
				break
			}
			step := tasks[task][len(tasks[task])-left[task]]
			if _, held := holds[step.A]; held && step.Op == api.Lock {
				t.Fatalf("lock %d is taken twice: %v", step.A, tasks)
			}
			switch step.Op {
			case api.Lock:
				holds[step.A] = task
			case api.Unlock:
				delete(holds, step.A)
			}
			wantStillEnabled(t, s, tasks, before, task, step, cells)
		}
		wantSaidInOrder(t, s, tasks)
		if t.Failed() {
			t.Fatalf("tasks %v", tasks)
		}
	}
}

// wantAllWait: where none is enabled and one has not ended, each that has not waits for a lock or a cell.
func wantAllWait(t *testing.T, s *Sched, tasks [][]api.Step, code api.Errno) {
	t.Helper()
	if code == api.ErrLock {
		return
	}
	for task, steps := range tasks {
		left, _ := s.Left(task)
		if left == 0 {
			continue
		}
		step := steps[len(steps)-left]
		_, held := s.Holder(step.A)
		if !(step.Op == api.Lock && held || step.Op == api.Await && s.Cell(step.A) < step.B) {
			t.Errorf("task %d does not wait at %v", task, step)
		}
	}
}

// wantStillEnabled: a task that was enabled is so still, if it was not picked, its lock not taken and its cell not lowered.
func wantStillEnabled(t *testing.T, s *Sched, tasks [][]api.Step, before []int, picked int, step api.Step, cells []int) {
	t.Helper()
	for _, task := range before {
		if task == picked || slices.Contains(s.Enabled(), task) {
			continue
		}
		left, _ := s.Left(task)
		next := tasks[task][len(tasks[task])-left]
		taken := next.Op == api.Lock && step == lock(next.A)
		lowered := next.Op == api.Await && step.Op == api.Add && step.A == next.A && s.Cell(next.A) < cells[next.A+near]
		if !taken && !lowered {
			t.Errorf("task %d is not enabled any more, behind %v of task %d", task, step, picked)
		}
	}
}

// wantSaidInOrder: of what was said that of one task is the row of its own Says, as far as it has come.
func wantSaidInOrder(t *testing.T, s *Sched, tasks [][]api.Step) {
	t.Helper()
	for task, steps := range tasks {
		var got, want []int
		for _, a := range s.Said() {
			if a/100 == task {
				got = append(got, a)
			}
		}
		left, _ := s.Left(task)
		for _, step := range steps[:len(steps)-left] {
			if step.Op == api.Say {
				want = append(want, step.A)
			}
		}
		if !slices.Equal(got, want) {
			t.Errorf("task %d has said %v; want %v", task, got, want)
		}
	}
}
