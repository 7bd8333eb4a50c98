package works

import (
	"math"
	"slices"

	"buchholz/api"
)

// search looks for the schedule of a plan that ends first. It adds the tasks in all orders in which each one follows those it needs.
// That is enough: if the tasks of any possible schedule are added in the order of their starts, none starts later than there.
type search struct {
	plan
	tails []int
	best  [api.MaxWorksTasks]int // the starts of the best schedule so far
	end   int                    // its end
}

// draft is a schedule of some tasks, each of which starts as early as those that were added before it let it.
type draft struct {
	done   int // the set of these tasks
	starts [api.MaxWorksTasks]int
	free   [api.MaxWorksMachines]int // when each machine is free
	bound  int                       // none that it grows to ends earlier; with all tasks it ends then
}

// with returns a draft with a task more.
func (s *search) with(d draft, task int) draft {
	t := s.Tasks[task]
	start := max(t.Release, d.free[t.Machine])
	for _, before := range t.After {
		start = max(start, d.starts[before]+s.Tasks[before].Length)
	}
	end := start + t.Length
	d.done |= setOf(task)
	d.starts[task] = start
	d.free[t.Machine] = end
	d.bound = max(d.bound, end+s.tails[task])
	return d
}

// follow looks at all schedules that a draft grows to.
func (s *search) follow(d draft) {
	if d.bound >= s.end {
		return
	}
	if d.done == 1<<len(s.Tasks)-1 {
		s.best, s.end = d.starts, d.bound
		return
	}
	for task := range s.ready(d.done) {
		s.follow(s.with(d, task))
	}
}

// Best returns a possible schedule that ends first, and its end.
func Best(p api.WorksPlan) ([]int, int, api.Errno) {
	x, e := checkedPlan(p)
	if e != api.OK {
		return nil, 0, e
	}
	s := search{plan: x, tails: x.tails(), end: math.MaxInt}
	s.follow(draft{})
	return slices.Clone(s.best[:len(x.Tasks)]), s.end, api.OK
}
