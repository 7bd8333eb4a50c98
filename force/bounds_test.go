package force_test

import (
	"slices"
	"testing"

	"buchholz/api"
	"buchholz/force"
)

// boundBy returns the bound of a winding, from the ends of all ranges.
func boundBy(w api.ForceWindow, turns []int, tolerance int) int {
	residuals := residualsBy(w)
	bound, low, high := 0, 0, 0
	for k, n := range turns {
		from, to := residuals[k]-2*tolerance*k, residuals[k]+2*tolerance*k
		from, to = from+residuals[k+1]-2*tolerance*(k+1), to+residuals[k+1]+2*tolerance*(k+1)
		var products []int
		for _, a := range []int{n - tolerance, n + tolerance} {
			products = append(products, a*from, a*to)
		}
		low, high = low+slices.Min(products), high+slices.Max(products)
		for _, end := range []int{low, high} {
			bound = max(bound, end, -end)
		}
	}
	return bound
}

// P5.2: the fourth example.
func TestThrustBound(t *testing.T) {
	for tolerance, want := range map[int][2]int{0: {16, 16}, 1: {60, 68}} {
		if b, e := force.ThrustBound(window(t, first), tolerance); b != want || e != api.OK {
			t.Error(tolerance, b, e)
		}
	}
}

// P5.2: the tolerance is from 0 to 20.
func TestThrustBoundErrors(t *testing.T) {
	for _, n := range []int{-1, 21, least, greatest} {
		if b, e := force.ThrustBound(window(t, first), n); b != [2]int{} || e != api.ErrRange {
			t.Error(n, b, e)
		}
	}
	for _, n := range []int{0, 20} {
		if _, e := force.ThrustBound(window(t, first), n); e != api.OK {
			t.Error(n, e)
		}
	}
}

// P5.2: bounds of all sorts of windows and tolerances.
func TestThrustBounds(t *testing.T) {
	r := numbers(6)
	for range 2000 {
		w, tolerance := anyWindow(&r), r.from(0, 20)
		want := [2]int{boundBy(w, w.Inner, tolerance), boundBy(w, w.Outer, tolerance)}
		if b, e := force.ThrustBound(w, tolerance); b != want || e != api.OK {
			t.Fatal(w, tolerance, b, e, want)
		}
	}
}

// P5.10: with the tolerance 0 the bound is the unit force.
func TestBoundWithoutTolerance(t *testing.T) {
	r := numbers(7)
	for range 500 {
		w := anyWindow(&r)
		want := [2]int{unitBy(w, api.ForceInnerThrust), unitBy(w, api.ForceOuterThrust)}
		if b, e := force.ThrustBound(w, 0); b != want || e != api.OK {
			t.Fatal(w, b, e, want)
		}
	}
}

// P5.10: no thrust of a window that differs by at most the tolerance exceeds the bound.
func TestBoundHoldsForAll(t *testing.T) {
	r := numbers(8)
	for range 1000 {
		size := r.from(1, 80)
		w, tolerance := randomWindow(&r, r.from(1, 15), size), r.from(0, 20)
		bound, e := force.ThrustBound(w, tolerance)
		if e != api.OK {
			t.Fatal(w, tolerance, e)
		}
		for range 5 {
			other := changed(&r, w, tolerance)
			thrusts, e := force.ThrustsOf(other)
			if e != api.OK {
				t.Fatal(other, e)
			}
			for i, l := range thrusts {
				if max(slices.Max(l), -slices.Min(l)) > bound[i] {
					t.Fatal(w, tolerance, other, thrusts, bound)
				}
			}
		}
	}
}

// changed returns a valid window that differs at each level by at most the tolerance.
func changed(r *numbers, w api.ForceWindow, tolerance int) api.ForceWindow {
	n := len(w.Inner)
	by := r.list(2*n, -tolerance, tolerance)
	if r.below(2) == 0 { // as great as may be
		for i := range by {
			by[i] = tolerance * (2*r.below(2) - 1)
		}
	}
	balance(r, by, tolerance, 0)
	other := windowOf(slices.Clone(w.Inner), slices.Clone(w.Outer))
	for k := range n {
		other.Inner[k] += by[k]
		other.Outer[k] += by[n+k]
	}
	return other
}
