package works

import (
	"iter"
	"slices"

	"buchholz/api"
)

// plan is a valid plan. A set of its tasks is a number whose bits are the tasks.
type plan struct{ api.WorksPlan }

func checkedPlan(p api.WorksPlan) (plan, api.Errno) {
	if e := errorOf(CheckPlan(p)); e != api.OK {
		return plan{}, e
	}
	return plan{p}, api.OK
}

// setOf returns the set of tasks.
func setOf(tasks ...int) int {
	set := 0
	for _, task := range tasks {
		set |= 1 << task
	}
	return set
}

// isIn returns whether a task is in a set.
func isIn(task, set int) bool {
	return set>>task&1 == 1
}

// checkTask accepts a task alone.
func checkTask(t api.WorksTask) api.Errno {
	e := firstOf(
		within(0, api.MaxWorksMachines-1)(t.Machine),
		within(1, api.MaxWorksLength)(t.Length),
		within(0, api.MaxWorksLength)(t.Release),
		atMost(len(t.After), api.MaxWorksTasks),
	)
	if e != api.OK {
		return e
	}
	return errorOf(checkEach(t.After, func(i, task int) api.Errno {
		return firstOf(within(0, api.MaxWorksTasks-1)(task), ascends(t.After, i))
	}))
}

// CheckPlan accepts a plan: it returns the index of the first wrong task, and its error.
func CheckPlan(p api.WorksPlan) (int, api.Errno) {
	tasks := len(p.Tasks)
	if e := firstOf(within(1, api.MaxWorksMachines)(p.Machines), atMost(tasks, api.MaxWorksTasks)); e != api.OK {
		return 0, e
	}
	i, e := checkEach(p.Tasks, func(_ int, t api.WorksTask) api.Errno {
		return firstOf(checkTask(t), existing(p.Machines)(t.Machine), existing(tasks)(t.After...))
	})
	if e != api.OK {
		return i, e
	}
	needs := needsOf(p.Tasks)
	return checkEach(needs[:tasks], func(task, needed int) api.Errno {
		if isIn(task, needed) {
			return api.ErrClash
		}
		return api.OK
	})
}

// needsOf returns, for each task, the set of those that it depends on.
func needsOf(tasks []api.WorksTask) [api.MaxWorksTasks]int {
	var needs [api.MaxWorksTasks]int
	for i, t := range tasks {
		needs[i] = setOf(t.After...)
	}
	for between := range tasks {
		for i := range tasks {
			if isIn(between, needs[i]) {
				needs[i] |= needs[between]
			}
		}
	}
	return needs
}

// ready yields the tasks that are not done yet, and come after nothing but what is done.
func (p plan) ready(done int) iter.Seq[int] {
	return func(yield func(int) bool) {
		for task, t := range p.Tasks {
			isReady := !isIn(task, done) && setOf(t.After...)&^done == 0
			if isReady && !yield(task) {
				return
			}
		}
	}
}

// inSequence yields all tasks in an order in which each one follows those it needs.
func (p plan) inSequence() iter.Seq[int] {
	return func(yield func(int) bool) {
		done := 0
		for range p.Tasks {
			for task := range p.ready(done) {
				if !yield(task) {
					return
				}
				done |= setOf(task)
			}
		}
	}
}

func (p plan) heads() []int {
	heads := make([]int, len(p.Tasks))
	for task := range p.inSequence() {
		t := p.Tasks[task]
		heads[task] = t.Release
		for _, before := range t.After {
			heads[task] = max(heads[task], heads[before]+p.Tasks[before].Length)
		}
	}
	return heads
}

func (p plan) tails() []int {
	tails := make([]int, len(p.Tasks))
	for _, task := range slices.Backward(slices.Collect(p.inSequence())) {
		t := p.Tasks[task]
		for _, before := range t.After {
			tails[before] = max(tails[before], t.Length+tails[task])
		}
	}
	return tails
}

// HeadsOf returns the heads of all tasks.
func HeadsOf(p api.WorksPlan) ([]int, api.Errno) {
	x, e := checkedPlan(p)
	if e != api.OK {
		return nil, e
	}
	return x.heads(), api.OK
}

// TailsOf returns the tails of all tasks.
func TailsOf(p api.WorksPlan) ([]int, api.Errno) {
	x, e := checkedPlan(p)
	if e != api.OK {
		return nil, e
	}
	return x.tails(), api.OK
}
