package force_test

import (
	"reflect"
	"slices"
	"testing"

	"buchholz/api"
	"buchholz/force"
)

// R3: no function changes a window, not even behind its ends.
func TestWindowsAreKept(t *testing.T) {
	w := windowOf(slices.Grow([]int{4, 4}, 8), slices.Grow([]int{-2, -6}, 8))
	force.CheckWindow(w)
	force.ResidualsOf(w)
	force.AxialOf(w)
	force.ThrustsOf(w)
	force.RadialOf(w)
	force.UnitOf(w, 1)
	force.Shifted(w, 1)
	force.Shifted(w, -1)
	force.Shifted(w, 0)
	force.Mirrored(w)
	force.ThrustBound(w, 1)
	force.FormatWindow(w)
	if !isSame(w, window(t, first)) {
		t.Error(w)
	}
	for _, l := range [][]int{w.Inner, w.Outer} {
		if behind := l[len(l):cap(l)]; !slices.Equal(behind, make([]int, len(behind))) {
			t.Error(l, behind)
		}
	}
}

// R3: no function changes a design.
func TestDesignsAreKept(t *testing.T) {
	d := small()
	force.CheckDesign(d)
	force.WindowOf(d, api.ForceCase{Shift: 1})
	force.WindowOf(d, api.ForceCase{Tap: 1})
	force.WorstOf(d)
	force.CheckWorst(d, api.ForceCase{})
	force.Withstands(d)
	if !reflect.DeepEqual(d, small()) {
		t.Error(d)
	}
}

// R3: a change of a result changes neither arguments nor another part of it.
func TestWindowsAreNew(t *testing.T) {
	w, d := window(t, first), small()
	for name, call := range map[string]func() (api.ForceWindow, api.Errno){
		"Shifted":     func() (api.ForceWindow, api.Errno) { return force.Shifted(w, 0) },
		"Shifted up":  func() (api.ForceWindow, api.Errno) { return force.Shifted(w, 1) },
		"Mirrored":    func() (api.ForceWindow, api.Errno) { return force.Mirrored(w) },
		"WindowOf":    func() (api.ForceWindow, api.Errno) { return force.WindowOf(d, api.ForceCase{}) },
		"ParseWindow": func() (api.ForceWindow, api.Errno) { return force.ParseWindow("0 0 0 ; 0 0 0") },
	} {
		x, e := call()
		if e != api.OK {
			t.Error(name, e)
		}
		outer := slices.Clone(x.Outer)
		for i := range x.Inner {
			x.Inner[i] = 77
		}
		_ = append(x.Inner, 77, 77, 77, 77)
		if !slices.Equal(x.Outer, outer) {
			t.Error(name, x)
		}
		for i := range x.Outer {
			x.Outer[i] = 78
		}
		if !isSame(w, window(t, first)) || !reflect.DeepEqual(d, small()) {
			t.Error(name, w, d)
		}
	}
}

// R3: the forces of one winding share no memory with those of the other one, with the window or with residuals.
func TestForcesAreNew(t *testing.T) {
	w := window(t, first)
	for _, f := range []func(api.ForceWindow) ([2][]int, api.Errno){force.AxialOf, force.ThrustsOf, force.RadialOf} {
		l, _ := f(w)
		want, _ := f(w)
		_ = append(l[0], 77, 77, 77)
		for i := range l[0] {
			l[0][i] = 77
		}
		again, _ := f(w)
		if !slices.Equal(l[1], want[1]) || !reflect.DeepEqual(again, want) {
			t.Error(l, again, want)
		}
	}
	l, _ := force.ResidualsOf(w)
	l[1] = 77
	if again, _ := force.ResidualsOf(w); !slices.Equal(again, []int{0, 2, 0}) || !isSame(w, window(t, first)) {
		t.Error(again, w)
	}
}

// R5: nil slices and empty ones are the same.
func TestEmptyIsNil(t *testing.T) {
	if s := force.FormatWindow(windowOf([]int{}, nil)); s != force.FormatWindow(api.ForceWindow{}) {
		t.Error(s)
	}
	d := small()
	d.Taps = [][]int{}
	a := force.CheckDesign(d)
	d.Taps = nil
	if b := force.CheckDesign(d); a != api.ErrShape || b != api.ErrShape {
		t.Error(a, b)
	}
}
