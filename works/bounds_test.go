package works_test

import (
	"slices"
	"testing"

	"buchholz/api"
	"buchholz/works"
)

// setsBy returns all sets of the numbers from 0 to n - 1 that are not empty, by size, then lexicographically.
func setsBy(n int) [][]int {
	var sets [][]int
	last := [][]int{nil}
	for range n {
		var larger [][]int
		for _, set := range last {
			for i := range n {
				if len(set) == 0 || i > set[len(set)-1] {
					larger = append(larger, append(slices.Clone(set), i))
				}
			}
		}
		sets = append(sets, larger...)
		last = larger
	}
	return sets
}

// busyBy returns the bound of tasks, and whether they have one machine.
func busyBy(p api.WorksPlan, tasks []int) (int, bool) {
	var heads, tails []int
	sum := 0
	for _, i := range tasks {
		if p.Tasks[i].Machine != p.Tasks[tasks[0]].Machine {
			return 0, false
		}
		heads, tails = append(heads, headBy(p, i)), append(tails, tailBy(p, i))
		sum += p.Tasks[i].Length
	}
	return slices.Min(heads) + sum + slices.Min(tails), true
}

// P7.4: the bound of chains.
func TestPathBound(t *testing.T) {
	for _, x := range []struct {
		p    api.WorksPlan
		want int
	}{
		{second(), 7},
		{third(), 7},
		{plan(1), 0},
		{plan(1, task(0, 10000, 10000)), 20000},
		{plan(1, task(0, 2, 5), task(0, 3, 9, 0)), 12},
		{plan(1, task(0, 2, 0, 1), task(0, 3, 1, 2), task(0, 7, 0)), 12},
		{plan(1, slices.Repeat([]api.WorksTask{task(0, 9, 0)}, 7)...), 9},
	} {
		if n, e := works.PathBound(x.p); n != x.want || e != api.OK {
			t.Error(x, n, e)
		}
	}
	refusePlans(t, "PathBound", func(p api.WorksPlan) (bool, api.Errno) {
		n, e := works.PathBound(p)
		return n == 0, e
	})
}

// P7.4: the longest chain of tasks, each of which is after the one before, from a release on.
func TestPathBoundOfMany(t *testing.T) {
	r := numbers(11)
	for range 2000 {
		p := randomPlan(&r, r.below(8), 20)
		want := 0
		for i, x := range p.Tasks {
			want = max(want, x.Release+longest(p, i))
		}
		if n, e := works.PathBound(p); n != want || e != api.OK {
			t.Fatal(p, n, want, e)
		}
	}
}

// longest returns the greatest time that a task and tasks behind it take, one after the other, with all waiting for releases.
func longest(p api.WorksPlan, i int) int {
	time := p.Tasks[i].Length
	for j, x := range p.Tasks {
		if slices.Contains(x.After, i) {
			time = max(time, p.Tasks[i].Length+longest(p, j))
		}
	}
	return time
}

// P7.4: the bound of tasks of one machine.
func TestBusyBound(t *testing.T) {
	late := plan(2, task(0, 3, 2), task(0, 2, 4), task(1, 4, 0, 0), task(1, 5, 0, 1))
	for _, x := range []struct {
		p     api.WorksPlan
		tasks []int
		want  int
		e     api.Errno
	}{
		{second(), []int{0, 1}, 5, api.OK},
		{second(), []int{0}, 7, api.OK},
		{second(), []int{1}, 2, api.OK},
		{second(), []int{2}, 7, api.OK},
		{third(), []int{2, 3}, 10, api.OK},
		{third(), []int{0, 1}, 9, api.OK},
		{late, []int{0, 1}, 2 + 5 + 4, api.OK},
		{late, []int{1}, 4 + 2 + 5, api.OK},
		{late, []int{2, 3}, 5 + 9, api.OK},
		{plan(1, slices.Repeat([]api.WorksTask{task(0, 10000, 10000)}, 7)...), []int{0, 1, 2, 3, 4, 5, 6}, 80000, api.OK},
		{second(), nil, 0, api.ErrShape},
		{second(), []int{}, 0, api.ErrShape},
		{plan(1), nil, 0, api.ErrShape},
		{plan(1), []int{0}, 0, api.ErrMissing},
		{second(), []int{-1}, 0, api.ErrMissing},
		{second(), []int{3}, 0, api.ErrMissing},
		{second(), []int{least}, 0, api.ErrMissing},
		{second(), []int{greatest}, 0, api.ErrMissing},
		{second(), []int{0, 1, 3}, 0, api.ErrMissing},
		{second(), []int{1, -1}, 0, api.ErrMissing}, // before ErrOrder
		{second(), []int{1, 0}, 0, api.ErrOrder},
		{second(), []int{1, 1}, 0, api.ErrOrder},
		{second(), []int{2, 0}, 0, api.ErrOrder}, // before ErrClash
		{second(), []int{0, 2}, 0, api.ErrClash},
		{second(), []int{0, 1, 2}, 0, api.ErrClash},
		{second(), []int{0, 2, 3}, 0, api.ErrClash}, // number by number
		{second(), []int{0, 2, 1}, 0, api.ErrClash},
		{second(), []int{1, 0, 3}, 0, api.ErrOrder},
		{second(), []int{0, 3, 2}, 0, api.ErrMissing},
		{third(), []int{2, 3, 3}, 0, api.ErrOrder},
		{plan(2, task(0, 1, 0), task(1, 1, 0), task(1, 1, 0)), []int{0, 1, 2}, 0, api.ErrClash},
		{plan(2, task(0, 1, 0), task(1, 1, 0), task(0, 1, 0)), []int{0, 1, 2}, 0, api.ErrClash},
	} {
		if n, e := works.BusyBound(x.p, x.tasks); n != x.want || e != x.e {
			t.Error(x, n, e)
		}
	}
	for _, tasks := range [][]int{nil, {0}, {-1}, {1, 0}} {
		refusePlans(t, "BusyBound", func(p api.WorksPlan) (bool, api.Errno) {
			n, e := works.BusyBound(p, tasks)
			return n == 0, e
		})
	}
}

// P7.4: the best bound, and the first one of the smallest sets with it.
func TestBestBound(t *testing.T) {
	for _, x := range []struct {
		p    api.WorksPlan
		set  []int
		want int
	}{
		{second(), []int{0}, 7}, // not 2, nor a larger set
		{third(), []int{2, 3}, 10},
		{plan(1, task(0, 10000, 10000)), []int{0}, 20000},
		{plan(2, task(0, 4, 0), task(1, 4, 0)), []int{0}, 4},
		{plan(2, task(1, 4, 0), task(0, 4, 0)), []int{0}, 4},
		{plan(2, task(0, 2, 0), task(1, 3, 0), task(0, 2, 0), task(1, 1, 0)), []int{0, 2}, 4},
		{plan(2, task(0, 2, 0), task(0, 2, 0), task(1, 4, 0)), []int{2}, 4}, // smaller, though it is later
		{plan(3, task(0, 3, 0), task(1, 1, 0), task(1, 1, 0), task(1, 1, 0), task(2, 1, 1), task(2, 1, 1)), []int{0}, 3},
		{plan(2, task(0, 1, 9), task(0, 8, 0), task(0, 2, 8), task(1, 1, 0)), []int{0, 2}, 11},
		{plan(1, task(0, 1, 0), task(0, 5, 5), task(0, 5, 5)), []int{1, 2}, 15},
	} {
		if set, n, e := works.BestBound(x.p); e != api.OK || n != x.want || !slices.Equal(set, x.set) {
			t.Error(x, set, n, e)
		}
	}
	for machines := range 4 {
		if set, n, e := works.BestBound(plan(machines + 1)); len(set) != 0 || n != 0 || e != api.ErrNone {
			t.Error(machines, set, n, e)
		}
	}
	refusePlans(t, "BestBound", func(p api.WorksPlan) (bool, api.Errno) {
		set, n, e := works.BestBound(p)
		return len(set) == 0 && n == 0, e
	})
}

// P7.4: of all sets, in their order, the best one comes first; and the bounds of all sets.
func TestBestBoundOfMany(t *testing.T) {
	r := numbers(12)
	sizes := [8]int{}
	for range 2000 {
		p := randomPlan(&r, r.from(1, 7), []int{3, 10, 1000}[r.below(3)])
		var best []int
		most := 0
		for _, tasks := range setsBy(len(p.Tasks)) {
			bound, is := busyBy(p, tasks)
			want := api.ErrClash
			if is {
				want = api.OK
			}
			if n, e := works.BusyBound(p, tasks); n != bound || e != want {
				t.Fatal(p, tasks, n, e, bound)
			}
			if bound > most {
				best, most = tasks, bound
			}
		}
		if set, n, e := works.BestBound(p); e != api.OK || n != most || !slices.Equal(set, best) {
			t.Fatal(p, set, n, e, best, most)
		}
		sizes[len(best)]++
	}
	for size, n := range sizes[1:5] {
		if n < 20 {
			t.Error(size+1, n)
		}
	}
}
