package sched

import "mallow/api"

// end is what is panicked with where a task opens a lock that it does not hold.
type end struct{}

// advance does the next step of a task, and answers whether that was the end of all.
func (s *Sched) advance(task int) (code api.Errno) {
	defer func() {
		r := recover()
		if r == nil {
			return
		}
		// Anything else is no end of the tasks, but a fault of this program.
		if _, ok := r.(end); !ok {
			panic(r)
		}
		s.over = true
		code = api.ErrLock
	}()
	s.do(task, s.ahead[task][0])
	// Behind the step: one that is the end of all has not been done.
	s.ahead[task] = s.ahead[task][1:]
	return api.OK
}

// do does a step that need not wait.
func (s *Sched) do(task int, step api.Step) {
	switch step.Op {
	case api.Lock:
		s.holders[step.A] = task
	case api.Unlock:
		s.unlock(task, step.A)
	case api.Add:
		s.add(step.A, step.B)
	case api.Say:
		s.said = append(s.said, step.A)
	}
}

// unlock opens a lock that a task holds.
func (s *Sched) unlock(task, lock int) {
	if holder, held := s.holders[lock]; !held || holder != task {
		panic(end{})
	}
	delete(s.holders, lock)
}

// add raises a cell, and forgets it where it is 0 as at first.
func (s *Sched) add(cell, by int) {
	s.cells[cell] += by
	if s.cells[cell] == 0 {
		delete(s.cells, cell)
	}
}

// waits tells whether a step cannot be done yet.
func (s *Sched) waits(step api.Step) bool {
	switch step.Op {
	case api.Lock:
		_, held := s.holders[step.A]
		return held
	case api.Await:
		return s.cells[step.A] < step.B
	}
	return false
}

// allEnded tells whether no task has a step left.
func (s *Sched) allEnded() bool {
	for _, steps := range s.ahead {
		if len(steps) > 0 {
			return false
		}
	}
	return true
}
