package works_test

import (
	"slices"
	"testing"

	"buchholz/api"
	"buchholz/works"
)

// touching returns a plan whose tasks are released at 0, 1 and 2.
func touching() api.WorksPlan {
	return plan(2, task(0, 3, 0), task(0, 2, 1), task(1, 4, 2, 0))
}

type schedule struct {
	p      api.WorksPlan
	starts []int
	index  int
	want   api.Errno
}

// badSchedules returns schedules of valid plans that are not possible.
func badSchedules() []schedule {
	last := plan(1, task(0, 2, 0, 1), task(0, 3, 0))
	l := []schedule{
		{second(), nil, 0, api.ErrShape},
		{second(), []int{0, 3}, 0, api.ErrShape},
		{second(), []int{0, 3, 3, 9}, 0, api.ErrShape},
		{second(), []int{-1, 3}, 0, api.ErrShape},
		{second(), make([]int, 100000), 0, api.ErrShape},
		{plan(1), []int{0}, 0, api.ErrShape},
		{plan(1), []int{-1}, 0, api.ErrShape},
		{touching(), []int{0, 0, 3}, 1, api.ErrBreak},
		{touching(), []int{5, 0, 1}, 1, api.ErrBreak},  // the first task that is wrong
		{touching(), []int{0, 3, 1}, 2, api.ErrBreak},  // it is too early for the task 0, too
		{touching(), []int{0, 3, 2}, 2, api.ErrOrder},  // released, but before the end of the task 0
		{touching(), []int{0, 2, 2}, 1, api.ErrBusy},   // the first task that is wrong
		{touching(), []int{2, 2, 9}, 1, api.ErrBusy},   // both start together
		{touching(), []int{2, 1, 9}, 1, api.ErrBusy},   // the other one starts first
		{touching(), []int{0, 1, 9}, 1, api.ErrBusy},   // one lies in the other one
		{touching(), []int{1, 1, 3}, 1, api.ErrBusy},   // before the error of the task 2
		{touching(), []int{0, 0, -1}, 2, api.ErrRange}, // ErrRange is first checked for all tasks
		{touching(), []int{0, 700001, -1}, 1, api.ErrRange},
		{last, []int{0, 0}, 0, api.ErrOrder}, // the task 1 has a higher index, and is not busy for the task 0
		{last, []int{2, 0}, 0, api.ErrOrder},
		{last, []int{0, 2}, 0, api.ErrOrder},
		{plan(1, task(0, 3, 0), task(0, 3, 0, 0)), []int{0, 2}, 1, api.ErrOrder}, // before ErrBusy
		{plan(1, task(0, 3, 0), task(0, 3, 0), task(0, 3, 0)), []int{0, 3, 5}, 2, api.ErrBusy},
		{plan(1, task(0, 3, 0), task(0, 3, 0), task(0, 3, 0)), []int{0, 3, 2}, 2, api.ErrBusy},
		{plan(1, task(0, 1, 0), task(0, 9, 0)), []int{4, 0}, 1, api.ErrBusy},
		{plan(1, task(0, 9, 0), task(0, 1, 0)), []int{0, 4}, 1, api.ErrBusy},
		{plan(2, task(0, 1, 0), task(1, 2, 0), task(0, 1, 0, 0, 1)), []int{0, 0, 1}, 2, api.ErrOrder},
		{plan(2, task(0, 2, 0), task(1, 1, 0), task(0, 1, 0, 0, 1)), []int{0, 0, 1}, 2, api.ErrOrder},
	}
	for i := range 3 {
		for _, n := range []int{-1, 700001, least, greatest} {
			starts := []int{0, 3, 3}
			starts[i] = n
			l = append(l, schedule{touching(), starts, i, api.ErrRange})
		}
	}
	return l
}

// goodSchedules returns possible schedules, with their ends as indexes.
func goodSchedules() []schedule {
	return []schedule{
		{second(), []int{0, 3, 3}, 7, api.OK},
		{second(), []int{2, 0, 5}, 9, api.OK},
		{second(), []int{0, 5, 3}, 7, api.OK},
		{second(), []int{0, 5, 4}, 8, api.OK},
		{second(), []int{0, 6, 3}, 8, api.OK},
		{second(), []int{0, 700000, 3}, 700002, api.OK},
		{third(), []int{2, 0, 6, 2}, 10, api.OK},
		{third(), []int{0, 3, 3, 7}, 11, api.OK},
		{touching(), []int{3, 1, 6}, 10, api.OK},
		{touching(), []int{0, 3, 3}, 7, api.OK},
		{plan(1), nil, 0, api.OK},
		{plan(1), []int{}, 0, api.OK},
		{plan(1, task(0, 10000, 10000)), []int{10000}, 20000, api.OK},
		{plan(1, task(0, 10000, 0)), []int{700000}, 710000, api.OK},
		{plan(1, task(0, 2, 0, 1), task(0, 3, 0)), []int{3, 0}, 5, api.OK},
		{plan(2, task(0, 5, 0), task(1, 2, 0)), []int{0, 0}, 5, api.OK},
	}
}

// P7.3: possible schedules, and their ends.
func TestCheckSchedule(t *testing.T) {
	for _, x := range goodSchedules() {
		if i, e := works.CheckSchedule(x.p, x.starts); i != 0 || e != api.OK {
			t.Error(x, i, e)
		}
		if end, e := works.EndOf(x.p, x.starts); end != x.index || e != api.OK {
			t.Error(x, end, e)
		}
	}
	for _, x := range badSchedules() {
		if i, e := works.CheckSchedule(x.p, x.starts); i != x.index || e != x.want {
			t.Error(x.p, x.starts[:min(len(x.starts), 9)], i, e, x.index, x.want)
		}
		if end, e := works.EndOf(x.p, x.starts); end != 0 || e != x.want {
			t.Error(x.p, x.starts[:min(len(x.starts), 9)], end, e, x.want)
		}
	}
	for _, x := range badPlans() { // the error of the plan comes with 0, before those of the starts
		for _, starts := range [][]int{nil, {0, 3, 3}, {-1, -1, -1}} {
			if i, e := works.CheckSchedule(x.p, starts); i != 0 || e != x.want {
				t.Error(x.name, i, e, x.want)
			}
			if end, e := works.EndOf(x.p, starts); end != 0 || e != x.want {
				t.Error(x.name, end, e, x.want)
			}
		}
	}
}

// errorBy returns the error of a schedule of a valid plan whose starts are in their range, and the index of its task.
func errorBy(p api.WorksPlan, starts []int) (int, api.Errno) {
	for i, x := range p.Tasks {
		if starts[i] < x.Release {
			return i, api.ErrBreak
		}
		for _, j := range x.After {
			if starts[i] < starts[j]+p.Tasks[j].Length {
				return i, api.ErrOrder
			}
		}
		for j := range i {
			for tick := starts[i]; tick < starts[i]+x.Length; tick++ {
				if p.Tasks[j].Machine == x.Machine && tick >= starts[j] && tick < starts[j]+p.Tasks[j].Length {
					return i, api.ErrBusy
				}
			}
		}
	}
	return 0, api.OK
}

// P7.3: schedules are checked tick by tick.
func TestCheckScheduleOfMany(t *testing.T) {
	r := numbers(6)
	met := map[api.Errno]int{}
	for range 20000 {
		p := randomPlan(&r, r.below(5), 3)
		starts := make([]int, len(p.Tasks))
		for i := range starts {
			starts[i] = r.below(20)
			if r.below(3) > 0 {
				starts[i] = max(starts[i], headBy(p, i))
			}
		}
		index, want := errorBy(p, starts)
		if possibleBy(p, starts) != (want == api.OK) {
			t.Fatal(p, starts, want)
		}
		if i, e := works.CheckSchedule(p, starts); i != index || e != want {
			t.Fatal(p, starts, i, e, index, want)
		}
		met[want]++
	}
	for _, e := range []api.Errno{api.OK, api.ErrBreak, api.ErrOrder, api.ErrBusy} {
		if met[e] < 300 {
			t.Error(e, met[e])
		}
	}
}

// P7.3: the examples, and a plan without tasks.
func TestBest(t *testing.T) {
	for _, x := range []struct {
		p   api.WorksPlan
		end int
	}{
		{second(), 7},
		{third(), 10},
		{touching(), 7},
		{plan(1), 0},
		{plan(4), 0},
		{plan(1, task(0, 10000, 10000)), 20000},
		{plan(1, slices.Repeat([]api.WorksTask{task(0, 10000, 10000)}, 7)...), 80000},
		{plan(4, task(0, 5, 0), task(1, 5, 0), task(2, 5, 0), task(3, 5, 0)), 5},
		{plan(1, task(0, 5, 0), task(0, 1, 1, 2), task(0, 1, 0)), 7},
		{plan(2, task(0, 1, 9), task(0, 8, 0), task(1, 1, 0)), 10},      // it pays to fill the time before a release
		{plan(2, task(0, 10, 0), task(0, 1, 1), task(1, 12, 0, 1)), 14}, // it pays to wait for a release
	} {
		starts, end, e := works.Best(x.p)
		if e != api.OK || end != x.end || len(starts) != len(x.p.Tasks) || !possibleBy(x.p, starts) || endBy(x.p, starts) != end {
			t.Error(x.p, starts, end, e)
		}
	}
	refusePlans(t, "Best", func(p api.WorksPlan) (bool, api.Errno) {
		starts, end, e := works.Best(p)
		return len(starts) == 0 && end == 0, e
	})
}

// endsBefore returns whether any possible schedule that begins with these starts ends before a time. It tries all starts.
func endsBefore(p api.WorksPlan, starts []int, time int) bool {
	i := len(starts)
	if !possibleBy(cut(p, i), starts) {
		return false
	}
	if i == len(p.Tasks) {
		return true
	}
	for start := p.Tasks[i].Release; start+p.Tasks[i].Length < time; start++ {
		if endsBefore(p, append(starts, start), time) {
			return true
		}
	}
	return false
}

// cut returns the first tasks of a plan.
func cut(p api.WorksPlan, n int) api.WorksPlan {
	return plan(p.Machines, p.Tasks[:n]...)
}

// P7.10: of all starts, none is possible and ends earlier than Best.
func TestNoEarlierStarts(t *testing.T) {
	r := numbers(7)
	for range 1500 {
		p := randomPlan(&r, r.below(6), 3)
		starts, end, e := works.Best(p)
		if e != api.OK || !possibleBy(p, starts) || endBy(p, starts) != end {
			t.Fatal(p, starts, end, e)
		}
		if len(p.Tasks) > 0 && endsBefore(p, nil, end) {
			t.Fatal(p, starts, end)
		}
	}
}

// earliestBy returns the earliest end, over all orders on the machines: with each of them each task starts after the tasks that it needs and those of its machine before it.
func earliestBy(p api.WorksPlan, orders [][]int) int {
	earliest := greatest
	for _, order := range orders {
		ends := make([]int, len(p.Tasks))
		for range p.Tasks { // after as many rounds as there are tasks nothing changes any more, unless the order is impossible
			waitFor(p, order, ends)
		}
		settled := slices.Clone(ends)
		waitFor(p, order, settled)
		if slices.Equal(ends, settled) {
			earliest = min(earliest, slices.Max(append(ends, 0)))
		}
	}
	return earliest
}

// waitFor moves the ends of tasks behind those for which they wait.
func waitFor(p api.WorksPlan, order, ends []int) {
	for at, i := range order {
		start := p.Tasks[i].Release
		for _, j := range order[:at] {
			if p.Tasks[j].Machine == p.Tasks[i].Machine {
				start = max(start, ends[j])
			}
		}
		for _, j := range p.Tasks[i].After {
			start = max(start, ends[j])
		}
		ends[i] = start + p.Tasks[i].Length
	}
}

// P7.10: CheckSchedule accepts Best, no order of the machines ends earlier, and the bounds are at most this end.
func TestNoEarlierEnd(t *testing.T) {
	r := numbers(8)
	var orders [7][][]int
	for n := range orders {
		orders[n] = permutations(n)
	}
	for range 1500 {
		p := randomPlan(&r, r.below(7), []int{4, 30, 10000}[r.below(3)])
		starts, end, e := works.Best(p)
		if want := earliestBy(p, orders[len(p.Tasks)]); e != api.OK || end != want {
			t.Fatal(p, starts, end, want, e)
		}
		if i, e := works.CheckSchedule(p, starts); i != 0 || e != api.OK {
			t.Fatal(p, starts, i, e)
		}
		if got, e := works.EndOf(p, starts); got != end || e != api.OK {
			t.Fatal(p, starts, got, end, e)
		}
		if bound, e := works.PathBound(p); e != api.OK || bound > end {
			t.Fatal(p, bound, end, e)
		}
		for _, tasks := range setsBy(len(p.Tasks)) {
			if bound, e := works.BusyBound(p, tasks); e != api.OK && e != api.ErrClash || bound > end {
				t.Fatal(p, tasks, bound, end, e)
			}
		}
	}
}

// P7.10: plans of seven tasks.
func TestNoEarlierEndOfSeven(t *testing.T) {
	r := numbers(9)
	orders := permutations(7)
	for range 40 {
		p := randomPlan(&r, 7, 20)
		starts, end, e := works.Best(p)
		if want := earliestBy(p, orders); e != api.OK || end != want || !possibleBy(p, starts) || endBy(p, starts) != end {
			t.Fatal(p, starts, end, want, e)
		}
	}
}

// P7.11: on one machine the end is the sum of the lengths.
func TestOneMachine(t *testing.T) {
	r := numbers(10)
	for range 300 {
		p := plan(r.from(1, 4))
		machine, sum := r.below(p.Machines), 0
		for range r.below(8) {
			x := task(machine, r.from(1, 10000), 0)
			p.Tasks = append(p.Tasks, x)
			sum += x.Length
		}
		starts, end, e := works.Best(p)
		if e != api.OK || end != sum || !possibleBy(p, starts) {
			t.Fatal(p, starts, end, sum, e)
		}
		if set, bound, e := works.BestBound(p); len(p.Tasks) > 0 && (e != api.OK || bound != sum || len(set) != len(p.Tasks)) {
			t.Fatal(p, set, bound, e)
		}
	}
}
