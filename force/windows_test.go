package force_test

import (
	"reflect"
	"slices"
	"testing"

	"buchholz/api"
	"buchholz/force"
)

// P5.1: windows, also of zeros alone, of one level, and up to the limits.
func TestCheckWindow(t *testing.T) {
	hundreds := slices.Repeat([]int{100, -100}, 8)[:15]
	opposite := slices.Repeat([]int{-100, 100}, 8)[:15]
	for _, w := range []api.ForceWindow{
		window(t, first),
		windowOf([]int{0}, []int{0}),
		windowOf([]int{7}, []int{-7}),
		windowOf([]int{1, -1}, []int{5, -5}),
		windowOf([]int{100, -100}, []int{0, 0}),
		windowOf(make([]int, 15), make([]int, 15)),
		windowOf(hundreds, opposite),
	} {
		if e := force.CheckWindow(w); e != api.OK {
			t.Error(w, e)
		}
	}
}

// P5.1: windows that are not valid, for each function of a window.
func TestWindowErrors(t *testing.T) {
	refuse(t, "CheckWindow", func(w api.ForceWindow) (bool, api.Errno) {
		return true, force.CheckWindow(w)
	})
	refuse(t, "ResidualsOf", func(w api.ForceWindow) (bool, api.Errno) {
		l, e := force.ResidualsOf(w)
		return len(l) == 0, e
	})
	for _, f := range []func(api.ForceWindow) ([2][]int, api.Errno){force.AxialOf, force.ThrustsOf, force.RadialOf} {
		refuse(t, "forces", func(w api.ForceWindow) (bool, api.Errno) {
			l, e := f(w)
			return len(l[0]) == 0 && len(l[1]) == 0, e
		})
	}
	for _, kind := range []int{0, 3, 4, -1} {
		refuse(t, "UnitOf", func(w api.ForceWindow) (bool, api.Errno) {
			n, e := force.UnitOf(w, kind)
			return n == 0, e
		})
	}
	for _, n := range []int{0, 3, 21, least} {
		refuse(t, "Shifted", func(w api.ForceWindow) (bool, api.Errno) {
			s, e := force.Shifted(w, n)
			return reflect.ValueOf(s).IsZero(), e
		})
		refuse(t, "ThrustBound", func(w api.ForceWindow) (bool, api.Errno) {
			b, e := force.ThrustBound(w, n)
			return b == [2]int{}, e
		})
	}
	refuse(t, "Mirrored", func(w api.ForceWindow) (bool, api.Errno) {
		m, e := force.Mirrored(w)
		return reflect.ValueOf(m).IsZero(), e
	})
}

// checkForces compares the forces of both windings.
func checkForces(t *testing.T, name string, w api.ForceWindow, got [2][]int, e api.Errno, inner, outer []int) {
	t.Helper()
	if e != api.OK || !slices.Equal(got[0], inner) || !slices.Equal(got[1], outer) {
		t.Fatal(name, w, got, e, inner, outer)
	}
}

// P5.1: the first and the second example.
func TestForcesOfExample(t *testing.T) {
	w := window(t, first)
	if l, e := force.ResidualsOf(w); e != api.OK || !slices.Equal(l, []int{0, 2, 0}) {
		t.Error(l, e)
	}
	l, e := force.AxialOf(w)
	checkForces(t, "AxialOf", w, l, e, []int{8, 8}, []int{-4, -12})
	l, e = force.ThrustsOf(w)
	checkForces(t, "ThrustsOf", w, l, e, []int{0, 8, 16}, []int{0, -4, -16})
	l, e = force.RadialOf(w)
	checkForces(t, "RadialOf", w, l, e, []int{24, 40}, []int{12, 60})
	for kind, want := range []int{16, 16, 40, 60} {
		if n, e := force.UnitOf(w, kind); n != want || e != api.OK {
			t.Error(kind, n, e)
		}
	}
}

// P5.1: a window of zeros alone has no forces.
func TestZerosHaveNoForces(t *testing.T) {
	w := windowOf(make([]int, 3), make([]int, 3))
	if l, e := force.ResidualsOf(w); e != api.OK || !slices.Equal(l, make([]int, 4)) {
		t.Error(l, e)
	}
	l, e := force.AxialOf(w)
	checkForces(t, "AxialOf", w, l, e, make([]int, 3), make([]int, 3))
	l, e = force.ThrustsOf(w)
	checkForces(t, "ThrustsOf", w, l, e, make([]int, 4), make([]int, 4))
	l, e = force.RadialOf(w)
	checkForces(t, "RadialOf", w, l, e, make([]int, 3), make([]int, 3))
	for kind := range api.ForceKinds {
		if n, e := force.UnitOf(w, kind); n != 0 || e != api.OK {
			t.Error(kind, n, e)
		}
	}
}

// P5.1: a window of one level has no axial forces.
func TestOneLevel(t *testing.T) {
	w := windowOf([]int{7}, []int{-7})
	if l, e := force.ResidualsOf(w); e != api.OK || !slices.Equal(l, []int{0, 0}) {
		t.Error(l, e)
	}
	l, e := force.AxialOf(w)
	checkForces(t, "AxialOf", w, l, e, []int{0}, []int{0})
	l, e = force.ThrustsOf(w)
	checkForces(t, "ThrustsOf", w, l, e, []int{0, 0}, []int{0, 0})
	l, e = force.RadialOf(w)
	checkForces(t, "RadialOf", w, l, e, []int{98}, []int{98})
}

// P5.1: residuals, forces and unit forces of all sorts of windows.
func TestForces(t *testing.T) {
	r := numbers(1)
	for range 2000 {
		w := anyWindow(&r)
		if l, e := force.ResidualsOf(w); e != api.OK || !slices.Equal(l, residualsBy(w)) {
			t.Fatal(w, l, e)
		}
		l, e := force.AxialOf(w)
		checkForces(t, "AxialOf", w, l, e, axialBy(w, w.Inner), axialBy(w, w.Outer))
		l, e = force.ThrustsOf(w)
		checkForces(t, "ThrustsOf", w, l, e, thrustsBy(w, w.Inner), thrustsBy(w, w.Outer))
		l, e = force.RadialOf(w)
		checkForces(t, "RadialOf", w, l, e, radialBy(w, false), radialBy(w, true))
		for kind := range api.ForceKinds {
			if n, e := force.UnitOf(w, kind); n != unitBy(w, kind) || e != api.OK {
				t.Fatal(w, kind, n, e)
			}
		}
	}
}

// P5.1: a unit force is a size: also of forces that are all below 0, or are greatest within a window.
func TestUnitOf(t *testing.T) {
	for _, x := range []struct {
		s    string
		want [4]int
	}{
		{"-4 -4 ; 2 6", [4]int{16, 16, 40, 60}},
		{"-4 4 ; 0 0", [4]int{16, 0, 16, 0}}, // 16 in the middle, 0 at both ends
		{"0 0 ; 5 -5", [4]int{0, 25, 0, 25}},
		{"1 1 ; 1 -3", [4]int{4, 4, 4, 12}},
		{"2 0 ; 5 -7", [4]int{14, 35, 6, 49}}, // the radial force -6 of the inner winding
	} {
		w := window(t, x.s)
		for kind, want := range x.want {
			if n, e := force.UnitOf(w, kind); n != want || e != api.OK {
				t.Error(x.s, kind, n, e)
			}
		}
	}
}

// P5.1: what is not a kind.
func TestUnitOfKinds(t *testing.T) {
	for _, kind := range []int{-1, 4, 5, least, greatest} {
		if n, e := force.UnitOf(window(t, first), kind); n != 0 || e != api.ErrKind {
			t.Error(kind, n, e)
		}
	}
}

// P5.2: the third example, the other direction, and a shift by 0.
func TestShifted(t *testing.T) {
	for by, want := range map[int]string{
		0:  "4 4 ; -2 -6",
		1:  "4 4 0 ; 0 -2 -6",
		2:  "4 4 0 0 ; 0 0 -2 -6",
		3:  "4 4 0 0 0 ; 0 0 0 -2 -6",
		-1: "0 4 4 ; -2 -6 0",
		-3: "0 0 0 4 4 ; -2 -6 0 0 0",
	} {
		if s, e := force.Shifted(window(t, first), by); e != api.OK || force.FormatWindow(s) != want {
			t.Error(by, s, e)
		}
	}
	s, _ := force.Shifted(window(t, first), 1)
	if l, e := force.ResidualsOf(s); e != api.OK || !slices.Equal(l, []int{0, 4, 6, 0}) {
		t.Error(l, e)
	}
	if m, e := force.Mirrored(window(t, first)); e != api.OK || force.FormatWindow(m) != "4 4 ; -6 -2" {
		t.Error(m, e)
	}
}

// P5.2: a shift that is too great, and windows that would be too high.
func TestShiftedErrors(t *testing.T) {
	for _, by := range []int{4, -4, least, greatest} {
		for _, levels := range []int{1, 12, 15} {
			w := windowOf(make([]int, levels), make([]int, levels))
			if s, e := force.Shifted(w, by); e != api.ErrRange || !reflect.ValueOf(s).IsZero() {
				t.Error(levels, by, s, e)
			}
		}
	}
	for levels := 1; levels <= 15; levels++ {
		for by := -3; by <= 3; by++ {
			w := windowOf(make([]int, levels), make([]int, levels))
			s, e := force.Shifted(w, by)
			if high := levels + max(by, -by); high <= 15 {
				if e != api.OK || len(s.Inner) != high || len(s.Outer) != high {
					t.Error(levels, by, s, e)
				}
			} else if e != api.ErrLarge || !reflect.ValueOf(s).IsZero() {
				t.Error(levels, by, s, e)
			}
		}
	}
}

// P5.2, P5.9: shifted and mirrored windows; their order.
func TestShiftsAndMirrors(t *testing.T) {
	r := numbers(2)
	for range 2000 {
		w := randomWindow(&r, r.from(1, 12), 100)
		by := r.from(-3, 3)
		s, e := force.Shifted(w, by)
		if e != api.OK || !isSame(s, shiftedBy(w, by)) || force.CheckWindow(s) != api.OK {
			t.Fatal(w, by, s, e)
		}
		m, e := force.Mirrored(w)
		if e != api.OK || !isSame(m, mirroredBy(w)) {
			t.Fatal(w, m, e)
		}
		a, e := force.Mirrored(s)
		b, f := force.Shifted(m, -by)
		if e != api.OK || f != api.OK || !isSame(a, b) {
			t.Fatal(w, by, a, b, e, f)
		}
	}
}

// mirroredBy returns the mirrored window.
func mirroredBy(w api.ForceWindow) api.ForceWindow {
	var m api.ForceWindow
	for k := len(w.Inner) - 1; k >= 0; k-- {
		m.Inner = append(m.Inner, w.Inner[k])
		m.Outer = append(m.Outer, w.Outer[k])
	}
	return m
}

// P5.9: in the mirrored window axial forces are opposite, and radial ones the same.
func TestMirroredForces(t *testing.T) {
	r := numbers(3)
	for range 1000 {
		w := anyWindow(&r)
		m, _ := force.Mirrored(w)
		axial, _ := force.AxialOf(w)
		others, _ := force.AxialOf(m)
		radial, _ := force.RadialOf(w)
		same, _ := force.RadialOf(m)
		n := len(w.Inner)
		for i := range 2 {
			for k := range n {
				if axial[i][k] != -others[i][n-1-k] || radial[i][k] != same[i][n-1-k] {
					t.Fatal(w, i, k, axial, others, radial, same)
				}
			}
		}
	}
}

// P5.8: the window is closed.
func TestWindowIsClosed(t *testing.T) {
	r := numbers(4)
	for range 1000 {
		w := anyWindow(&r)
		axial, _ := force.AxialOf(w)
		residuals, _ := force.ResidualsOf(w)
		radial, _ := force.RadialOf(w)
		if sum(axial[0]...)+sum(axial[1]...) != 0 || residuals[0] != 0 || residuals[len(w.Inner)] != 0 {
			t.Fatal(w, axial, residuals)
		}
		for k, a := range w.Inner {
			if d := a - w.Outer[k]; radial[0][k]+radial[1][k] != d*d {
				t.Fatal(w, k, radial)
			}
		}
	}
}

// P5.12: levels that are balanced have no residuals and no axial forces.
func TestBalancedLevels(t *testing.T) {
	r := numbers(5)
	for range 500 {
		n := r.from(1, 15)
		w := windowOf(r.list(n, -100, 100), make([]int, n))
		for k, a := range w.Inner {
			w.Outer[k] = -a
		}
		if l, e := force.ResidualsOf(w); e != api.OK || !slices.Equal(l, make([]int, n+1)) {
			t.Fatal(w, l, e)
		}
		l, e := force.AxialOf(w)
		checkForces(t, "AxialOf", w, l, e, make([]int, n), make([]int, n))
	}
}

// P5.1: the highest window with the greatest ampere turns.
func TestGreatestForces(t *testing.T) {
	half := slices.Repeat([]int{100}, 7)
	turns := slices.Concat(half, []int{0}, slices.Repeat([]int{-100}, 7))
	for kind, want := range []int{980000, 980000, 0, 0} {
		if n, e := force.UnitOf(windowOf(turns, turns), kind); n != want || e != api.OK {
			t.Error(kind, n, e)
		}
	}
	opposite, _ := force.Mirrored(windowOf(turns, turns))
	for kind, want := range []int{0, 0, 20000, 20000} {
		if n, e := force.UnitOf(windowOf(turns, opposite.Outer), kind); n != want || e != api.OK {
			t.Error(kind, n, e)
		}
	}
}
