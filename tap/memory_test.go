package tap_test

import (
	"reflect"
	"slices"
	"testing"

	"buchholz/api"
	"buchholz/tap"
)

// roomy returns the same items with room behind them.
func roomy[T any](l []T) []T {
	return slices.Grow(slices.Clone(l), 8)
}

// R3: no function changes a machine, a run, states or disturbances, not even behind their ends.
func TestArgumentsAreKept(t *testing.T) {
	m := machine(t, late)
	m.Branches, m.Guards = roomy(m.Branches), roomy(m.Guards)
	run, states, disturbances := roomy([]int{0, 2, 1, 3}), roomy([]int{2, 3, 4, 6, 12}), roomy([]int{90, 110})
	l := usual()
	tap.CheckMachine(m)
	tap.CurrentsIn(m, l, 6, 10)
	tap.OutputIn(m, l, 6, 10)
	tap.CirculatingIn(m, l, 6)
	tap.MovesIn(m, 6)
	tap.BreakAt(m, l, 6, 1, 10)
	tap.CheckState(m, l, 6)
	tap.CheckMove(m, l, 6, 1)
	tap.Reachable(m)
	tap.FailureOf(m, l)
	tap.InvariantOf(m, l)
	tap.CheckInvariant(m, l, states)
	tap.RunOf(m, l, run)
	tap.WearOf(m, l, run, 10)
	tap.CourseOf(sixth(), moment(0, 0), disturbances)
	tap.FormatMachine(m)
	if !isSame(m, machine(t, late)) || !slices.Equal(run, []int{0, 2, 1, 3}) || !slices.Equal(states, []int{2, 3, 4, 6, 12}) || !slices.Equal(disturbances, []int{90, 110}) {
		t.Error(m, run, states, disturbances)
	}
	for _, x := range [][]int{run, states, disturbances} {
		if behind := x[len(x):cap(x)]; !slices.Equal(behind, make([]int, len(behind))) {
			t.Error(x, behind)
		}
	}
	if behind := m.Guards[len(m.Guards):cap(m.Guards)]; !slices.Equal(behind, make([]api.TapGuard, len(behind))) {
		t.Error(behind)
	}
}

// R3: a change of a result changes neither arguments nor later results.
func TestResultsAreNew(t *testing.T) {
	m, l := machine(t, late), usual()
	run := []int{0, 2, 1, 3}
	for name, call := range map[string]func() any{
		"CurrentsIn":   func() any { x, _ := tap.CurrentsIn(m, l, 6, 10); return x },
		"MovesIn":      func() any { x, _ := tap.MovesIn(m, 6); return x },
		"Reachable":    func() any { x, _ := tap.Reachable(m); return x },
		"FailureOf":    func() any { x, _ := tap.FailureOf(m, limits(span(0, 10), 4, 9, 30)); return x },
		"InvariantOf":  func() any { x, _ := tap.InvariantOf(m, l); return x },
		"RunOf":        func() any { x, _, _ := tap.RunOf(m, l, run); return x },
		"WearOf":       func() any { x, _, _ := tap.WearOf(m, l, run, 10); return x },
		"CourseOf":     func() any { x, _ := tap.CourseOf(sixth(), moment(0, 0), []int{90, 90}); return x },
		"ParseMachine": func() any { x, _ := tap.ParseMachine(late); return x.Branches },
	} {
		first, want := reflect.ValueOf(call()), call()
		if first.Len() == 0 {
			t.Error(name, "is empty")
		}
		for i := range first.Len() {
			first.Index(i).SetZero()
		}
		if again := call(); !reflect.DeepEqual(again, want) {
			t.Error(name, again, want)
		}
	}
	if !isSame(m, machine(t, late)) || !slices.Equal(run, []int{0, 2, 1, 3}) {
		t.Error(m, run)
	}
}

// R5: nil slices and empty ones are the same.
func TestEmptyIsNil(t *testing.T) {
	m := machine(t, bare)
	m.Guards = []api.TapGuard{}
	if _, e := tap.CheckMachine(m); e != api.OK || tap.FormatMachine(m) != bare {
		t.Error(m, e)
	}
	l, e := tap.Reachable(m)
	if e != api.OK || !slices.Equal(l, []int{3}) {
		t.Error(l, e)
	}
	if i, e := tap.CheckInvariant(m, usual(), []int{}); i != 0 || e != api.ErrMissing {
		t.Error(i, e)
	}
	if l, e := tap.CourseOf(sixth(), moment(0, 0), []int{}); len(l) != 0 || e != api.OK {
		t.Error(l, e)
	}
}

// R4: what is found does not depend on earlier calls.
func TestResultsAreRepeated(t *testing.T) {
	r := numbers(31)
	for range 200 {
		m, l := provable(&r)
		run, e := tap.FailureOf(m, l)
		states, f := tap.InvariantOf(m, l)
		for range 3 {
			again, g := tap.FailureOf(m, l)
			other, h := tap.InvariantOf(m, l)
			if e != g || f != h || !slices.Equal(run, again) || !slices.Equal(states, other) {
				t.Fatal(tap.FormatMachine(m), run, again, states, other)
			}
		}
	}
}
