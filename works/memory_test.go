package works_test

import (
	"reflect"
	"slices"
	"testing"

	"buchholz/api"
	"buchholz/works"
)

// isBehind returns whether there are only zero values behind the end of a slice.
func isBehind[T any](t *testing.T, l []T) {
	t.Helper()
	if behind := l[len(l):cap(l)]; !reflect.DeepEqual(behind, make([]T, len(behind))) {
		t.Error(l, behind)
	}
}

// R3: no function changes plans, schedules, sets, stacks or lots, not even behind their ends.
func TestArgumentsAreKept(t *testing.T) {
	p, starts, tasks := third(), roomy([]int{2, 0, 6, 2}), roomy([]int{2, 3})
	p.Tasks = roomy(p.Tasks)
	p.Tasks[2].After = roomy(p.Tasks[2].After)
	works.CheckPlan(p)
	works.HeadsOf(p)
	works.TailsOf(p)
	works.CheckSchedule(p, starts)
	works.EndOf(p, starts)
	works.Best(p)
	works.PathBound(p)
	works.BusyBound(p, tasks)
	works.BestBound(p)
	works.FormatTask(p.Tasks[2])
	stack := roomy([]int{0, 2, 4, 1, 3})
	works.CheckStack(stack, 2)
	lots := roomy(fifth())
	lots[2].Made = roomy(lots[2].Made)
	works.CheckLots(lots)
	works.AcceptOf(lots[2])
	works.IngredientsOf(lots, "unit")
	works.ProductsOf(lots, "wire")
	works.SuspectsIn(lots)
	works.FormatLot(lots[2])
	if !reflect.DeepEqual(p, third()) || !reflect.DeepEqual(lots, fifth()) {
		t.Error(p, lots)
	}
	if !slices.Equal(starts, []int{2, 0, 6, 2}) || !slices.Equal(tasks, []int{2, 3}) || !slices.Equal(stack, []int{0, 2, 4, 1, 3}) {
		t.Error(starts, tasks, stack)
	}
	isBehind(t, starts)
	isBehind(t, tasks)
	isBehind(t, stack)
	isBehind(t, p.Tasks)
	isBehind(t, p.Tasks[2].After)
	isBehind(t, lots)
	isBehind(t, lots[2].Made)
}

// R3: a change of a result changes neither arguments nor later results.
func TestResultsAreNew(t *testing.T) {
	p, lots := third(), fifth()
	for name, call := range map[string]func() any{
		"HeadsOf":       func() any { x, _ := works.HeadsOf(p); return x },
		"TailsOf":       func() any { x, _ := works.TailsOf(p); return x },
		"Best":          func() any { x, _, _ := works.Best(p); return x },
		"BestBound":     func() any { x, _, _ := works.BestBound(p); return x },
		"StackFor":      func() any { x, _ := works.StackFor(5, 2); return x },
		"IngredientsOf": func() any { x, _ := works.IngredientsOf(lots, "unit"); return x },
		"ProductsOf":    func() any { x, _ := works.ProductsOf(lots, "wire"); return x },
		"SuspectsIn":    func() any { x, _ := works.SuspectsIn(lots); return x },
		"ParseLot":      func() any { x, _ := works.ParseLot("unit coil,wire 1 1 0 2"); return x.Made },
		"ParseTask":     func() any { x, _ := works.ParseTask("1 4 0 0,1"); return x.After },
	} {
		first, want := reflect.ValueOf(call()), call()
		if first.Len() == 0 {
			t.Error(name, "is empty")
		}
		for i := range first.Len() {
			first.Index(i).SetZero()
		}
		if again := call(); !reflect.DeepEqual(again, want) {
			t.Error(name, again, want)
		}
	}
	if !reflect.DeepEqual(p, third()) || !reflect.DeepEqual(lots, fifth()) {
		t.Error(p, lots)
	}
}

// R5: nil slices and empty ones are the same.
func TestEmptyIsNil(t *testing.T) {
	p := api.WorksPlan{Machines: 1, Tasks: []api.WorksTask{}}
	for _, starts := range [][]int{nil, {}} {
		if i, e := works.CheckSchedule(p, starts); i != 0 || e != api.OK {
			t.Error(i, e)
		}
		if end, e := works.EndOf(plan(1), starts); end != 0 || e != api.OK {
			t.Error(end, e)
		}
	}
	p = second()
	p.Tasks[0].After, p.Tasks[1].After = []int{}, nil
	if _, end, e := works.Best(p); end != 7 || e != api.OK {
		t.Error(end, e)
	}
	lots := fifth()
	lots[0].Made = []string{}
	if l, e := works.SuspectsIn(lots); e != api.OK || !slices.Equal(l, []string{"coil", "unit"}) {
		t.Error(l, e)
	}
	if l, e := works.SuspectsIn([]api.WorksLot{}); e != api.OK || len(l) != 0 {
		t.Error(l, e)
	}
}

// R4: what is found does not depend on earlier calls, nor on the order in which the ingredients of a lot are met.
func TestResultsAreRepeated(t *testing.T) {
	r := numbers(17)
	for range 100 {
		p, lots := randomPlan(&r, r.from(1, 7), 9), randomLots(&r)
		starts, end, e := works.Best(p)
		set, bound, f := works.BestBound(p)
		suspects, g := works.SuspectsIn(lots)
		for range 5 {
			starts2, end2, e2 := works.Best(p)
			set2, bound2, f2 := works.BestBound(p)
			suspects2, g2 := works.SuspectsIn(lots)
			if end != end2 || bound != bound2 || e != e2 || f != f2 || g != g2 {
				t.Fatal(p, lots)
			}
			if !slices.Equal(starts, starts2) || !slices.Equal(set, set2) || !slices.Equal(suspects, suspects2) {
				t.Fatal(p, lots)
			}
		}
	}
}
