package works_test

import (
	"fmt"
	"slices"
	"testing"

	"buchholz/api"
	"buchholz/works"
)

// all returns the numbers from 0 to n - 1.
func all(n int) []int {
	l := make([]int, n)
	for i := range l {
		l[i] = i
	}
	return l
}

// alone returns wrong tasks, whatever plan they are in, with their errors.
func alone() map[string]struct {
	change func(*api.WorksTask)
	want   api.Errno
} {
	type bad = struct {
		change func(*api.WorksTask)
		want   api.Errno
	}
	l := map[string]bad{
		"eight after it":                   {func(t *api.WorksTask) { t.After = all(8) }, api.ErrLarge},
		"eight wrong ones after it":        {func(t *api.WorksTask) { t.After = slices.Repeat([]int{-1}, 8) }, api.ErrLarge},
		"very many after it":               {func(t *api.WorksTask) { t.After = all(100000) }, api.ErrLarge},
		"a wrong machine, eight after it":  {func(t *api.WorksTask) { t.Machine, t.After = 4, all(8) }, api.ErrRange},
		"a wrong release, wrong after it":  {func(t *api.WorksTask) { t.Release, t.After = -1, []int{1, 1} }, api.ErrRange},
		"a double one":                     {func(t *api.WorksTask) { t.After = []int{1, 1} }, api.ErrOrder},
		"a descending one":                 {func(t *api.WorksTask) { t.After = []int{2, 1} }, api.ErrOrder},
		"a descending one that is missing": {func(t *api.WorksTask) { t.After = []int{6, 5} }, api.ErrOrder},
		"a descending, then a wrong one":   {func(t *api.WorksTask) { t.After = []int{2, 1, 7} }, api.ErrOrder},
		"a wrong, then a descending one":   {func(t *api.WorksTask) { t.After = []int{2, 7, 1} }, api.ErrRange},
		"a descending one that is wrong":   {func(t *api.WorksTask) { t.After = []int{2, -1} }, api.ErrRange},
		"the last one of seven is wrong":   {func(t *api.WorksTask) { t.After = []int{0, 1, 2, 3, 4, 5, 7} }, api.ErrRange},
		"the last one of seven is double":  {func(t *api.WorksTask) { t.After = []int{0, 1, 2, 3, 4, 5, 5} }, api.ErrOrder},
	}
	for _, n := range []int{-1, least, greatest} {
		l[fmt.Sprint("the machine ", n)] = bad{func(t *api.WorksTask) { t.Machine = n }, api.ErrRange}
		l[fmt.Sprint("the length ", n)] = bad{func(t *api.WorksTask) { t.Length = n }, api.ErrRange}
		l[fmt.Sprint("the release ", n)] = bad{func(t *api.WorksTask) { t.Release = n }, api.ErrRange}
		l[fmt.Sprint("after ", n)] = bad{func(t *api.WorksTask) { t.After = []int{n} }, api.ErrRange}
	}
	l["the machine 4"] = bad{func(t *api.WorksTask) { t.Machine = 4 }, api.ErrRange}
	l["the length 0"] = bad{func(t *api.WorksTask) { t.Length = 0 }, api.ErrRange}
	l["the length 10001"] = bad{func(t *api.WorksTask) { t.Length = 10001 }, api.ErrRange}
	l["the release 10001"] = bad{func(t *api.WorksTask) { t.Release = 10001 }, api.ErrRange}
	l["after 7"] = bad{func(t *api.WorksTask) { t.After = []int{7} }, api.ErrRange}
	return l
}

type badPlan struct {
	name  string
	p     api.WorksPlan
	index int
	want  api.Errno
}

// badPlans returns plans that are not valid.
func badPlans() []badPlan {
	wrong := task(0, 0, 0)
	l := []badPlan{
		{"nothing", api.WorksPlan{}, 0, api.ErrRange},
		{"no machine, too many tasks", plan(0, make([]api.WorksTask, 8)...), 0, api.ErrRange},
		{"no machine, a wrong task", plan(0, task(0, 1, 0), wrong), 0, api.ErrRange},
		{"eight tasks", plan(1, slices.Repeat([]api.WorksTask{task(0, 1, 0)}, 8)...), 0, api.ErrLarge},
		{"eight wrong tasks", plan(1, make([]api.WorksTask, 8)...), 0, api.ErrLarge},
		{"very many tasks", plan(1, make([]api.WorksTask, 100000)...), 0, api.ErrLarge},
		{"the last of seven tasks", plan(1, append(slices.Repeat([]api.WorksTask{task(0, 1, 0)}, 6), wrong)...), 6, api.ErrRange},
		{"two wrong tasks", plan(2, task(0, 1, 0), task(0, 1, 0, 1, 1), wrong), 1, api.ErrOrder},
		{"a machine that is missing", plan(2, task(0, 1, 0), task(2, 1, 0)), 1, api.ErrMissing},
		{"the machine 3 of three", plan(3, task(3, 1, 0)), 0, api.ErrMissing},
		{"a task that is missing", plan(2, task(0, 1, 0), task(1, 1, 0, 0, 2)), 1, api.ErrMissing},
		{"a task that is missing, before a wrong one", plan(2, task(0, 1, 0, 3), task(1, 1, 0), wrong), 0, api.ErrMissing},
		{"a wrong task before one with a machine that is missing", plan(2, task(0, 1, 0), wrong, task(2, 1, 0)), 1, api.ErrRange},
		{"a missing machine, and a descending after", plan(1, task(1, 1, 0, 2, 1), task(0, 1, 0), task(0, 1, 0)), 0, api.ErrOrder},
		{"after itself", plan(1, task(0, 1, 0), task(0, 1, 0, 1)), 1, api.ErrClash},
		{"after each other", plan(1, task(0, 1, 0, 1), task(0, 1, 0, 0)), 0, api.ErrClash},
		{"after two that are after each other", plan(1, task(0, 1, 0, 1), task(0, 1, 0, 2), task(0, 1, 0, 1)), 1, api.ErrClash},
		{"before two that are after each other", plan(1, task(0, 1, 0), task(0, 1, 0, 0, 2), task(0, 1, 0, 1)), 1, api.ErrClash},
		{"a ring of seven", plan(1, task(0, 1, 0, 3), task(0, 1, 0, 4), task(0, 1, 0, 5), task(0, 1, 0, 6), task(0, 1, 0, 2), task(0, 1, 0, 0), task(0, 1, 0, 1)), 0, api.ErrClash},
		{"a ring behind others", plan(1, task(0, 1, 0, 6), task(0, 1, 0, 0), task(0, 1, 0, 5), task(0, 1, 0, 2, 6), task(0, 1, 0, 5), task(0, 1, 0, 3), task(0, 1, 0)), 2, api.ErrClash},
		{"a ring, then a wrong task", plan(1, task(0, 1, 0, 0), wrong), 1, api.ErrRange},
		{"a ring, then a missing machine", plan(1, task(0, 1, 0, 0), task(1, 1, 0)), 1, api.ErrMissing},
	}
	for _, n := range []int{-1, 0, 5, least, greatest} {
		l = append(l, badPlan{fmt.Sprint("machines ", n), plan(n, second().Tasks...), 0, api.ErrRange}, badPlan{fmt.Sprint("machines alone ", n), plan(n), 0, api.ErrRange})
	}
	for name, x := range alone() {
		for i := range 3 {
			p := second()
			x.change(&p.Tasks[i])
			l = append(l, badPlan{fmt.Sprint(name, " of the task ", i), p, i, x.want})
		}
	}
	return l
}

// refusePlans checks a function with each plan that is not valid: it returns whether the result is a zero value, and the error.
func refusePlans(t *testing.T, name string, call func(api.WorksPlan) (bool, api.Errno)) {
	t.Helper()
	for _, x := range badPlans() {
		if zero, e := call(x.p); !zero || e != x.want {
			t.Error(name, x.name, zero, e, x.want)
		}
	}
}

// P7.2: plans, up to the limits.
func TestCheckPlan(t *testing.T) {
	last := []api.WorksTask{task(3, 10000, 10000), task(0, 1, 0, 0), task(1, 1, 0, 0, 1), task(2, 1, 0, 0, 1, 2), task(3, 1, 0, 0, 1, 2, 3), task(0, 1, 0, 0, 1, 2, 3, 4), task(1, 1, 0, 0, 1, 2, 3, 4, 5)}
	for _, p := range []api.WorksPlan{
		second(), third(), plan(1), plan(4), plan(4, last...), plan(1, task(0, 1, 0)),
		plan(2, task(0, 1, 0, 2), task(1, 2, 3), task(1, 1, 0, 1)), // a task may be after a later one
		plan(1, slices.Repeat([]api.WorksTask{task(0, 10000, 10000)}, 7)...),
	} {
		if i, e := works.CheckPlan(p); i != 0 || e != api.OK {
			t.Error(p, i, e)
		}
	}
	for _, x := range badPlans() {
		if i, e := works.CheckPlan(x.p); i != x.index || e != x.want {
			t.Error(x.name, i, e, x.index, x.want)
		}
	}
}

// P7.2: a task that is after itself, on whatever way, is found by following all ways.
func TestTasksAfterThemselves(t *testing.T) {
	r := numbers(4)
	clashes := 0
	for range 20000 {
		n := r.from(1, 7)
		rarely := r.from(2, 8)
		p := plan(1)
		for range n {
			x := task(0, 1, 0)
			for j := range n {
				if r.below(rarely) == 0 {
					x.After = append(x.After, j)
				}
			}
			p.Tasks = append(p.Tasks, x)
		}
		index, want := 0, api.OK
		for i := range n {
			if want == api.OK && comesFrom(p, i, i, n) {
				index, want = i, api.ErrClash
			}
		}
		if want == api.ErrClash {
			clashes++
		}
		if i, e := works.CheckPlan(p); i != index || e != want {
			t.Fatal(p, i, e, index, want)
		}
	}
	if clashes < 2000 || clashes > 18000 {
		t.Error(clashes)
	}
}

// comesFrom returns whether a task depends on another one, by at most so many steps.
func comesFrom(p api.WorksPlan, a, b, steps int) bool {
	reached := []int{a}
	for range steps {
		var next []int
		for _, i := range reached {
			next = append(next, p.Tasks[i].After...)
		}
		slices.Sort(next)
		reached = slices.Compact(next)
		if slices.Contains(reached, b) {
			return true
		}
	}
	return false
}

// P7.2: heads and tails.
func TestHeadsAndTails(t *testing.T) {
	for _, x := range []struct {
		p            api.WorksPlan
		heads, tails []int
	}{
		{second(), []int{0, 0, 3}, []int{4, 0, 0}},
		{third(), []int{0, 0, 3, 2}, []int{4, 4, 0, 0}},
		{plan(1), nil, nil},
		{plan(4, task(3, 10000, 10000)), []int{10000}, []int{0}},
		{plan(1, task(0, 2, 5), task(0, 3, 1, 0)), []int{5, 7}, []int{3, 0}},
		{plan(1, task(0, 2, 5), task(0, 3, 9, 0)), []int{5, 9}, []int{3, 0}}, // released after its predecessor has ended
		{plan(1, task(0, 2, 5, 1), task(0, 3, 1)), []int{5, 1}, []int{0, 2}},
		{plan(1, task(0, 2, 0, 1), task(0, 3, 1, 2), task(0, 7, 0)), []int{10, 7, 0}, []int{0, 2, 5}},
		{plan(2, task(0, 1, 0), task(1, 5, 0), task(0, 2, 0, 0, 1), task(1, 4, 0, 0)), []int{0, 0, 5, 1}, []int{4, 2, 0, 0}},
	} {
		if l, e := works.HeadsOf(x.p); e != api.OK || !slices.Equal(l, x.heads) {
			t.Error(x, l, e)
		}
		if l, e := works.TailsOf(x.p); e != api.OK || !slices.Equal(l, x.tails) {
			t.Error(x, l, e)
		}
	}
	refusePlans(t, "HeadsOf", func(p api.WorksPlan) (bool, api.Errno) {
		l, e := works.HeadsOf(p)
		return len(l) == 0, e
	})
	refusePlans(t, "TailsOf", func(p api.WorksPlan) (bool, api.Errno) {
		l, e := works.TailsOf(p)
		return len(l) == 0, e
	})
}

// P7.2: heads and tails, by their definitions.
func TestHeadsAndTailsOfMany(t *testing.T) {
	r := numbers(5)
	for range 3000 {
		p := randomPlan(&r, r.below(8), []int{5, 10000}[r.below(2)])
		heads, e := works.HeadsOf(p)
		tails, f := works.TailsOf(p)
		if e != api.OK || f != api.OK || len(heads) != len(p.Tasks) || len(tails) != len(p.Tasks) {
			t.Fatal(p, heads, tails, e, f)
		}
		for i := range p.Tasks {
			if heads[i] != headBy(p, i) || tails[i] != tailBy(p, i) {
				t.Fatal(p, heads, tails)
			}
		}
	}
}
