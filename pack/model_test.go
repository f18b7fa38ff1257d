package pack

import (
	"math"

	"mallow/api"
)

const top = 1 << 21

func sum(start, most, end int) api.Sum {
	return api.Sum{Start: start, Max: most, End: end}
}

func whole(pages int) api.Sum { return sum(pages, pages, pages) }

// rows is a list of n rows that are alike.
func rows(n int, s api.Sum) []api.Sum {
	l := make([]api.Sum, n)
	for i := range l {
		l[i] = s
	}
	return l
}

// join is a new list of what stands in some, one behind the other.
func join(lists ...[]api.Sum) []api.Sum {
	var all []api.Sum
	for _, l := range lists {
		all = append(all, l...)
	}
	return all
}

// some counts how many of the three the question is answered with yes for.
func some(s api.Sum, is func(x int) bool) int {
	count := 0
	for _, x := range []int{s.Start, s.Max, s.End} {
		if is(x) {
			count++
		}
	}
	return count
}

// wordable goes by 7.2 sentence by sentence: may Pack pack this?
func wordable(s api.Sum) bool {
	if some(s, func(x int) bool { return x < 0 || x > top }) > 0 {
		return false
	}
	if s.Start > s.Max || s.End > s.Max {
		return false
	}
	tops := some(s, func(x int) bool { return x == top })
	return tops == 0 || tops == 3
}

// isRight goes by 7.1 sentence by sentence.
func isRight(s api.Sum, pages int) bool {
	if some(s, func(x int) bool { return x < 0 || x > pages }) > 0 {
		return false
	}
	if s.Start > s.Max || s.End > s.Max {
		return false
	}
	all := s == whole(pages)
	if some(s, func(x int) bool { return x == pages }) > 0 && !all {
		return false
	}
	return s.Start+s.End < pages || all
}

// rightSums are all summaries that are right for so many pages.
func rightSums(pages int) []api.Sum {
	var all []api.Sum
	for start := range pages + 1 {
		for most := range pages + 1 {
			for end := range pages + 1 {
				if s := sum(start, most, end); isRight(s, pages) {
					all = append(all, s)
				}
			}
		}
	}
	return all
}

// eachList calls with each list of so many of the summaries.
func eachList(of []api.Sum, long int, call func(l []api.Sum)) {
	l := make([]api.Sum, long)
	var fill func(i int)
	fill = func(i int) {
		if i == long {
			call(l)
			return
		}
		for _, s := range of {
			l[i] = s
			fill(i + 1)
		}
	}
	fill(0)
}

// behind is how many pages are free from the i-th row's beginning on.
func behind(l []api.Sum, i, pages int) int {
	free := 0
	for ; i < len(l); i++ {
		free += l[i].Start
		if l[i] != whole(pages) {
			break
		}
	}
	return free
}

// ahead is how many pages are free right ahead of the i-th row's beginning.
func ahead(l []api.Sum, i, pages int) int {
	free := 0
	for i--; i >= 0; i-- {
		free += l[i].End
		if l[i] != whole(pages) {
			break
		}
	}
	return free
}

// merged is 7.3's answer: the longest row lies within one of the rows, or goes
// across a place where two of them meet.
func merged(l []api.Sum, pages int) api.Sum {
	m := sum(behind(l, 0, pages), 0, ahead(l, len(l), pages))
	for i, s := range l {
		m.Max = max(m.Max, s.Max, ahead(l, i, pages)+behind(l, i, pages))
	}
	return m
}

// across is the first place of 7.4: it tries each page of each row's End.
func across(l []api.Sum, pages, n int) (int, bool) {
	for i, s := range l {
		for in := s.End; in >= 1; in-- {
			if in < n && n-in <= behind(l, i+1, pages) {
				return i*pages + pages - in, true
			}
		}
	}
	return 0, false
}

// within is the first row of which Max is at least n.
func within(l []api.Sum, n int) (int, bool) {
	for i, s := range l {
		if s.Max >= n {
			return i, true
		}
	}
	return 0, false
}

// fitting is 7.4's answer.
func fitting(l []api.Sum, pages, n int) (int, bool) {
	place, over := across(l, pages, n)
	row, in := within(l, n)
	if in && (!over || row <= place/pages) {
		return row * pages, true
	}
	return place, over
}

// sumOf is 6.4's summary of pages, of which some are free.
func sumOf(free []bool) api.Sum {
	var s api.Sum
	long, only := 0, true
	for _, is := range free {
		if !is {
			long, only = 0, false
			continue
		}
		long++
		if only {
			s.Start = long
		}
		s.Max = max(s.Max, long)
	}
	s.End = long
	return s
}

// firstFree is the first page at which n free ones in a row begin.
func firstFree(free []bool, n int) (int, bool) {
	long := 0
	for i, is := range free {
		if !is {
			long = 0
			continue
		}
		if long++; long >= n {
			return i + 1 - n, true
		}
	}
	return 0, false
}

// rowsOf cuts pages into rows and tells the summary of each.
func rowsOf(free []bool, pages int) []api.Sum {
	var l []api.Sum
	for i := 0; i < len(free); i += pages {
		l = append(l, sumOf(free[i:i+pages]))
	}
	return l
}

// numbers are the edges of what may stand for a count of pages, and far ones;
// around is one more edge.
func numbers(around int) []int {
	all := []int{math.MinInt, math.MinInt + 1, -1 << 32, -top, -1, 0, 1, 2, top / 2, 1 << 32, 1 << 42, math.MaxInt - 1, math.MaxInt}
	for _, x := range []int{around / 2, around, top} {
		all = append(all, x-1, x, x+1)
	}
	return all
}

// eachSum calls with each summary of three of the numbers.
func eachSum(of []int, call func(s api.Sum)) {
	for _, start := range of {
		for _, most := range of {
			for _, end := range of {
				call(sum(start, most, end))
			}
		}
	}
}

// chance answers numbers from 0 to below n that look like chance, the same ones
// in each run.
func chance(state uint64) func(n int) int {
	return func(n int) int {
		state = state*6364136223846793005 + 1442695040888963407
		return int(state>>33) % n
	}
}

// rightByChance is a summary that is right for so many pages: whole, without a
// free page, free only at an end, or of any other kind.
func rightByChance(next func(n int) int, pages int) api.Sum {
	start, end := next(pages), 0
	end = next(pages - start)
	switch next(6) {
	case 0, 1:
		return whole(pages)
	case 2:
		return sum(0, 0, 0)
	case 3:
		return sum(start, start, 0)
	case 4:
		return sum(0, start, start)
	}
	low := max(start, end)
	return sum(start, low+next(pages-low), end)
}
