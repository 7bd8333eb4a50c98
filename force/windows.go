package force

import (
	"slices"

	"buchholz/api"
)

// mostLevels is how many levels a window may have that is shifted.
const mostLevels = api.MaxForceLevels + api.MaxForceShift

// The windings of a window.
const (
	inner    = iota
	outer    // the outer winding
	windings // the number of windings
)

// window is a valid window.
type window struct{ api.ForceWindow }

func checkedWindow(w api.ForceWindow) (window, api.Errno) {
	if e := CheckWindow(w); e != api.OK {
		return window{}, e
	}
	return window{w}, api.OK
}

// measure is how the unit force of a kind is computed: from which forces, of which winding.
type measure struct {
	forces  func(window) [windings][]int
	winding int
}

// measures returns how the unit forces of all kinds are computed.
func measures() [api.ForceKinds]measure {
	return [api.ForceKinds]measure{
		api.ForceInnerThrust: {window.thrusts, inner},
		api.ForceOuterThrust: {window.thrusts, outer},
		api.ForceInnerRadial: {window.radial, inner},
		api.ForceOuterRadial: {window.radial, outer},
	}
}

// turns returns the ampere turns of both windings.
func (w window) turns() [windings][]int {
	return [windings][]int{inner: w.Inner, outer: w.Outer}
}

// residuals returns the residuals at all boundaries.
func (w window) residuals() []int {
	levels := slices.Clone(w.Inner)
	for k, n := range w.Outer {
		levels[k] += n
	}
	return sumsOf(levels)
}

// axial returns the axial forces of both windings by level.
func (w window) axial() [windings][]int {
	var forces [windings][]int
	residuals := w.residuals()
	for i, turns := range w.turns() {
		for k, n := range turns {
			forces[i] = append(forces[i], n*(residuals[k]+residuals[k+1]))
		}
	}
	return forces
}

// thrusts returns the thrusts of both windings by boundary.
func (w window) thrusts() [windings][]int {
	var thrusts [windings][]int
	for i, forces := range w.axial() {
		thrusts[i] = sumsOf(forces)
	}
	return thrusts
}

// radial returns the radial forces of both windings by level.
func (w window) radial() [windings][]int {
	var forces [windings][]int
	for k, a := range w.Inner {
		b := w.Outer[k]
		forces[inner] = append(forces[inner], a*(a-b))
		forces[outer] = append(forces[outer], -b*(a-b))
	}
	return forces
}

// unit returns the unit force of a kind.
func (w window) unit(kind int) int {
	m := measures()[kind]
	return greatestSize(m.forces(w)[m.winding])
}

// shifted returns the window shifted, which may have too many levels.
func (w window) shifted(by int) window {
	up, down := max(by, 0), max(-by, 0)
	return window{api.ForceWindow{Inner: padded(w.Inner, down, up), Outer: padded(w.Outer, up, down)}}
}

// padded returns ampere turns with so many levels of 0 below and above.
func padded(turns []int, below, above int) []int {
	l := make([]int, below+len(turns)+above)
	copy(l[below:], turns)
	return l
}

// bounds returns the bounds of a tolerance for both windings.
func (w window) bounds(tolerance int) [windings]int {
	var bounds [windings]int
	residuals := w.residuals()
	for i, turns := range w.turns() {
		var thrust api.Range
		for k, n := range turns {
			// The residuals below and above the level are known up to the tolerance of all levels below each, of both windings.
			sum := around(residuals[k]+residuals[k+1], 2*tolerance*(k+k+1))
			thrust = plus(thrust, times(around(n, tolerance), sum))
			bounds[i] = max(bounds[i], thrust.Hi, -thrust.Lo)
		}
	}
	return bounds
}

// ResidualsOf returns the residuals of a window at all boundaries.
func ResidualsOf(w api.ForceWindow) ([]int, api.Errno) {
	c, e := checkedWindow(w)
	if e != api.OK {
		return nil, e
	}
	return c.residuals(), api.OK
}

// forcesOf returns forces of a window that is checked first.
func forcesOf(w api.ForceWindow, forces func(window) [windings][]int) ([windings][]int, api.Errno) {
	c, e := checkedWindow(w)
	if e != api.OK {
		return [windings][]int{}, e
	}
	return forces(c), api.OK
}

// AxialOf returns the axial forces of both windings by level.
func AxialOf(w api.ForceWindow) ([2][]int, api.Errno) {
	return forcesOf(w, window.axial)
}

// ThrustsOf returns the thrusts of both windings by boundary.
func ThrustsOf(w api.ForceWindow) ([2][]int, api.Errno) {
	return forcesOf(w, window.thrusts)
}

// RadialOf returns the radial forces of both windings by level.
func RadialOf(w api.ForceWindow) ([2][]int, api.Errno) {
	return forcesOf(w, window.radial)
}

// UnitOf returns the unit force of a kind.
func UnitOf(w api.ForceWindow, kind int) (int, api.Errno) {
	c, e := checkedWindow(w)
	if e = firstOf(e, checkKind(kind)); e != api.OK {
		return 0, e
	}
	return c.unit(kind), api.OK
}

// Shifted returns the window shifted: the outer winding stands higher by so many levels, or lower for a number below 0.
func Shifted(w api.ForceWindow, by int) (api.ForceWindow, api.Errno) {
	c, e := checkedWindow(w)
	if e = firstOf(e, sized(api.MaxForceShift)(by)); e != api.OK {
		return api.ForceWindow{}, e
	}
	s := c.shifted(by)
	if len(s.Inner) > mostLevels {
		return api.ForceWindow{}, api.ErrLarge
	}
	return s.ForceWindow, api.OK
}

// Mirrored returns the mirrored window.
func Mirrored(w api.ForceWindow) (api.ForceWindow, api.Errno) {
	if e := CheckWindow(w); e != api.OK {
		return api.ForceWindow{}, e
	}
	m := api.ForceWindow{Inner: slices.Clone(w.Inner), Outer: slices.Clone(w.Outer)}
	slices.Reverse(m.Inner)
	slices.Reverse(m.Outer)
	return m, api.OK
}

// ThrustBound returns the bounds of a tolerance for the thrusts of the inner and of the outer winding.
func ThrustBound(w api.ForceWindow, tolerance int) ([2]int, api.Errno) {
	c, e := checkedWindow(w)
	if e = firstOf(e, within(0, api.MaxForceError)(tolerance)); e != api.OK {
		return [2]int{}, e
	}
	return c.bounds(tolerance), api.OK
}
