package works_test

import (
	"math"
	"slices"
	"testing"

	"buchholz/api"
)

const (
	least    = math.MinInt
	greatest = math.MaxInt
)

// numbers is a sequence of numbers that look as if they were random, and are always the same ones.
type numbers uint64

// below returns a number from 0 to n - 1.
func (r *numbers) below(n int) int {
	*r = *r*6364136223846793005 + 1442695040888963407
	return int(uint64(*r) >> 33 % uint64(n))
}

// from returns a number from lo to hi.
func (r *numbers) from(lo, hi int) int {
	return lo + r.below(hi-lo+1)
}

// between returns a range of numbers from lo to hi, which is often a single one.
func (r *numbers) between(lo, hi int) api.Range {
	a, b := r.from(lo, hi), r.from(lo, hi)
	if r.below(3) == 0 {
		b = a
	}
	return span(min(a, b), max(a, b))
}

// shuffled returns the numbers from 0 to n - 1 in some order.
func (r *numbers) shuffled(n int) []int {
	l := make([]int, n)
	for i := range l {
		j := r.below(i + 1)
		l[i] = l[j]
		l[j] = i
	}
	return l
}

// span returns a range.
func span(lo, hi int) api.Range {
	return api.Range{Lo: lo, Hi: hi}
}

// task returns a task.
func task(machine, length, release int, after ...int) api.WorksTask {
	return api.WorksTask{Machine: machine, Length: length, Release: release, After: after}
}

// plan returns a plan.
func plan(machines int, tasks ...api.WorksTask) api.WorksPlan {
	return api.WorksPlan{Machines: machines, Tasks: tasks}
}

// second returns the plan of the second example.
func second() api.WorksPlan {
	return plan(2, task(0, 3, 0), task(0, 2, 0), task(1, 4, 0, 0))
}

// third returns the plan of the third example.
func third() api.WorksPlan {
	return plan(2, task(0, 3, 0), task(0, 2, 0), task(1, 4, 0, 0), task(1, 4, 0, 1))
}

// randomPlan returns a valid plan, whose numbers are at most so much.
func randomPlan(r *numbers, tasks, most int) api.WorksPlan {
	p := plan(r.from(1, 4))
	rank := r.shuffled(tasks) // a task comes after others of a lower rank alone
	rarely := r.from(2, 5)
	for i := range tasks {
		t := task(r.below(p.Machines), r.from(1, most), 0)
		if r.below(2) == 0 {
			t.Release = r.from(0, most)
		}
		for j := range tasks {
			if rank[j] < rank[i] && r.below(rarely) == 0 {
				t.After = append(t.After, j)
			}
		}
		p.Tasks = append(p.Tasks, t)
	}
	return p
}

// headBy returns the head of a task.
func headBy(p api.WorksPlan, i int) int {
	head := p.Tasks[i].Release
	for _, j := range p.Tasks[i].After {
		head = max(head, headBy(p, j)+p.Tasks[j].Length)
	}
	return head
}

// tailBy returns the tail of a task.
func tailBy(p api.WorksPlan, i int) int {
	tail := 0
	for j, t := range p.Tasks {
		if slices.Contains(t.After, i) {
			tail = max(tail, t.Length+tailBy(p, j))
		}
	}
	return tail
}

// endBy returns the end of a schedule.
func endBy(p api.WorksPlan, starts []int) int {
	end := 0
	for i, t := range p.Tasks {
		end = max(end, starts[i]+t.Length)
	}
	return end
}

// possibleBy returns whether the first tasks of a plan may start like this, as far as it concerns them alone.
func possibleBy(p api.WorksPlan, starts []int) bool {
	for i, start := range starts {
		if start < p.Tasks[i].Release {
			return false
		}
		for j, other := range starts {
			apart := start >= other+p.Tasks[j].Length
			if slices.Contains(p.Tasks[i].After, j) && !apart {
				return false
			}
			if i != j && p.Tasks[i].Machine == p.Tasks[j].Machine && !apart && other < start+p.Tasks[i].Length {
				return false
			}
		}
	}
	return true
}

// lot returns a lot.
func lot(name string, measured, limits api.Range, made ...string) api.WorksLot {
	return api.WorksLot{Name: name, Made: made, Measured: measured, Limits: limits}
}

// fifth returns the lots of the fifth example.
func fifth() []api.WorksLot {
	return []api.WorksLot{
		lot("wire", span(5, 6), span(0, 10)),
		lot("coil", span(20, 22), span(21, 30), "wire"),
		lot("unit", span(1, 1), span(0, 2), "coil", "wire"),
	}
}

// randomName returns a name, which is often short.
func randomName(r *numbers) string {
	const all = "abcdefghijklmnopqrstuvwxyzABCDEFGHIJKLMNOPQRSTUVWXYZ0123456789-"
	name := all[r.below(52):][:1]
	for range r.below([]int{1, 2, 12}[r.below(3)]) {
		name += all[r.below(len(all)):][:1]
	}
	return name
}

// randomLots returns valid lots.
func randomLots(r *numbers) []api.WorksLot {
	var l []api.WorksLot
	var names []string
	for range r.below(21) {
		name := randomName(r)
		if slices.Contains(names, name) {
			continue
		}
		made := r.shuffled(len(names))
		made = made[:min(len(made), r.below(4)*r.below(3))]
		x := lot(name, r.between(-20, 20), span(-10, 10))
		for _, i := range made {
			x.Made = append(x.Made, names[i])
		}
		l = append(l, x)
		names = append(names, name)
	}
	return l
}

// isOK fails the test if there is an error.
func isOK(t *testing.T, e api.Errno) {
	t.Helper()
	if e != api.OK {
		t.Fatal(e)
	}
}

// roomy returns the same items with room behind them.
func roomy[T any](l []T) []T {
	return slices.Grow(slices.Clone(l), 8)
}

// permutations returns all orders of the numbers from 0 to n - 1, lexicographically.
func permutations(n int) [][]int {
	all := [][]int{nil}
	for range n {
		var longer [][]int
		for _, l := range all {
			for i := range n {
				if !slices.Contains(l, i) {
					longer = append(longer, append(slices.Clone(l), i))
				}
			}
		}
		all = longer
	}
	return all
}

// badNames are strings that are not names.
var badNames = []string{"", "-", "1", "1a", "-a", "a b", "a,b", "a_b", "ä", "a\x00", "abcdefghijklm", " a", "a "}

// goodNames are names, the shortest and the longest ones among them.
var goodNames = []string{"a", "Z", "a-", "A-1", "abcdefghijkl", "z0123456789-"}
