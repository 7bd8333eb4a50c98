package field_test

import (
	"reflect"
	"testing"

	"buchholz/api"
	"buchholz/field"
)

// R3: no function changes its arguments.
func TestArgumentsAreKept(t *testing.T) {
	r := numbers(51)
	for range 300 {
		n := randomNet(&r, 20)
		again := withTurns(n, turnsOf(n))
		count := len(n.Branches)
		a, b := randomList(&r, count, 1, 20), randomList(&r, count, 1, 20)
		values := append(append([]int{}, a...), b...)
		potentials := guess(3, randomList(&r, n.Nodes, -9, 9)...)
		kept := append([]int{}, potentials.Values...)
		var l []api.Range
		for i := range a {
			l = append(l, api.Range{Lo: min(a[i], b[i]), Hi: max(a[i], b[i])})
		}
		ranges := append([]api.Range{}, l...)
		s, _ := field.SolutionOf(n)
		same, _ := field.SolutionOf(n)
		field.CheckNet(n)
		field.PartsOf(n)
		field.CheckSolution(n, s)
		field.FluxRanges(n)
		field.EnergyOf(n)
		field.UpperBound(n, potentials)
		field.LowerBound(n, api.FieldGuess{Den: 1, Values: a})
		field.EnergySpan(n, l)
		field.CheckEnclosure(n, l, api.FieldGuesses{Potentials: potentials, Fluxes: guess(1, make([]int, count)...)})
		field.MutualOf(n, a, b)
		field.LeakageOf(n, a, b)
		field.LossRange(n, a)
		field.SaturatedIn(n, b)
		if !reflect.DeepEqual(n.Branches, again.Branches) || !reflect.DeepEqual(values, append(append([]int{}, a...), b...)) {
			t.Fatal(n, again, a, b, values)
		}
		if !reflect.DeepEqual(potentials.Values, kept) || len(l) > 0 && !reflect.DeepEqual(l, ranges) || !equal(s, same) {
			t.Fatal(potentials, kept, l, ranges, s, same)
		}
	}
}

// R3: no function changes a curve.
func TestCurvesAreKept(t *testing.T) {
	low, top := bent(), high()
	field.CheckCurve(low)
	field.DropAt(low, -30)
	field.FluxFor(top, 1, -75)
	field.FluxSpan(low, top, api.FieldDrive{Gap: api.Range{Lo: 0, Hi: 1}, Turns: 99})
	if !reflect.DeepEqual(low, bent()) || !reflect.DeepEqual(top, high()) {
		t.Error(low, top)
	}
}

// R3: a change of a result changes neither arguments nor later results.
func TestResultsAreNew(t *testing.T) {
	n := net(t, third)
	s, _ := field.SolutionOf(n)
	s.Potentials[1], s.Fluxes[0] = 9, 9
	parts, _ := field.PartsOf(net(t, "4,0 1 1 0,2 3 1 0"))
	_ = append(parts[0], 9)
	parts[0][0] = 9
	ranges, _ := field.FluxRanges(n)
	ranges[0].Lo = 9
	saturated, _ := field.SaturatedIn(n, []int{0, 0, 0})
	saturated[0] = 9
	parsed := net(t, third)
	parsed.Branches[0].From = 9
	if !reflect.DeepEqual(parts, [][]int{{9, 1}, {2, 3}}) {
		t.Error(parts)
	}
	if again, _ := field.SolutionOf(n); !equal(again, solution(9, []int{0, 30}, []int{20, 15, -5})) {
		t.Error(again)
	}
	if again, _ := field.PartsOf(net(t, "4,0 1 1 0,2 3 1 0")); !reflect.DeepEqual(again, [][]int{{0, 1}, {2, 3}}) {
		t.Error(again)
	}
	if again, _ := field.FluxRanges(n); again[0].Lo != 2 {
		t.Error(again)
	}
	if again, _ := field.SaturatedIn(n, []int{0, 0, 0}); again[0] != 0 {
		t.Error(again)
	}
	if again := net(t, third); again.Branches[0].From != 0 {
		t.Error(again)
	}
}
