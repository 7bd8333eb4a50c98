package works

import (
	"cmp"
	"iter"
	"slices"

	"buchholz/api"
)

// timed is a valid plan with the heads and the tails of its tasks.
type timed struct {
	plan
	heads, tails []int
}

func timedPlan(p api.WorksPlan) (timed, api.Errno) {
	x, e := checkedPlan(p)
	if e != api.OK {
		return timed{}, e
	}
	return timed{plan: x, heads: x.heads(), tails: x.tails()}, api.OK
}

// chains returns the bound of chains.
func (p timed) chains() int {
	bound := 0
	for task, t := range p.Tasks {
		bound = max(bound, p.heads[task]+t.Length+p.tails[task])
	}
	return bound
}

// busy returns the bound of tasks of one machine, of which there is at least one.
func (p timed) busy(tasks []int) int {
	head, length, tail := p.heads[tasks[0]], 0, p.tails[tasks[0]]
	for _, task := range tasks {
		head = min(head, p.heads[task])
		length += p.Tasks[task].Length
		tail = min(tail, p.tails[task])
	}
	return head + length + tail
}

// checkMachine refuses a task whose machine is not that of another one.
func (p plan) checkMachine(task, other int) api.Errno {
	if p.Tasks[task].Machine != p.Tasks[other].Machine {
		return api.ErrClash
	}
	return api.OK
}

// checkTasks refuses what is not a set of tasks of one machine, or is empty.
func (p plan) checkTasks(tasks []int) api.Errno {
	if len(tasks) == 0 {
		return api.ErrShape
	}
	return errorOf(checkEach(tasks, func(i, task int) api.Errno {
		if e := firstOf(existing(len(p.Tasks))(task), ascends(tasks, i)); e != api.OK {
			return e
		}
		return p.checkMachine(task, tasks[0])
	}))
}

// machineSets yields all sets of tasks of one machine that are not empty.
func (p plan) machineSets() iter.Seq[[]int] {
	return func(yield func([]int) bool) {
		for set := range 1 << len(p.Tasks) {
			tasks := p.tasksIn(set)
			if p.checkTasks(tasks) == api.OK && !yield(tasks) {
				return
			}
		}
	}
}

// tasksIn returns the tasks of a set.
func (p plan) tasksIn(set int) []int {
	var tasks []int
	for task := range p.Tasks {
		if isIn(task, set) {
			tasks = append(tasks, task)
		}
	}
	return tasks
}

// precedes returns whether a set is smaller than another one, or as large and lexicographically before it.
func precedes(a, b []int) bool {
	return cmp.Or(cmp.Compare(len(a), len(b)), slices.Compare(a, b)) < 0
}

// PathBound returns the bound of chains.
func PathBound(p api.WorksPlan) (int, api.Errno) {
	x, e := timedPlan(p)
	if e != api.OK {
		return 0, e
	}
	return x.chains(), api.OK
}

// BusyBound returns the bound of tasks of one machine.
func BusyBound(p api.WorksPlan, tasks []int) (int, api.Errno) {
	x, e := timedPlan(p)
	if e != api.OK {
		return 0, e
	}
	if e := x.checkTasks(tasks); e != api.OK {
		return 0, e
	}
	return x.busy(tasks), api.OK
}

// BestBound returns the set of tasks with the best bound, and this bound.
func BestBound(p api.WorksPlan) ([]int, int, api.Errno) {
	x, e := timedPlan(p)
	if e != api.OK {
		return nil, 0, e
	}
	var best []int
	most := 0 // less than any bound, since no task has the length 0
	for tasks := range x.machineSets() {
		bound := x.busy(tasks)
		if bound > most || bound == most && precedes(tasks, best) {
			best, most = tasks, bound
		}
	}
	if best == nil {
		return nil, 0, api.ErrNone
	}
	return best, most, api.OK
}
