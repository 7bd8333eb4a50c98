// Package force is chapter 5: forces of short circuits at the levels of two windings, their bounds, the worst case of a design, and the clamping of windings. See shared/doc/05-force.md.
package force

import "buchholz/api"

// firstOf returns the first error, or OK.
func firstOf(l ...api.Errno) api.Errno {
	for _, e := range l {
		if e != api.OK {
			return e
		}
	}
	return api.OK
}

// within returns the check that refuses numbers that are not from lo to hi.
func within(lo, hi int) func(...int) api.Errno {
	return func(l ...int) api.Errno {
		for _, n := range l {
			if n < lo || n > hi {
				return api.ErrRange
			}
		}
		return api.OK
	}
}

// sized returns the check that refuses numbers that are greater in size than most.
func sized(most int) func(...int) api.Errno {
	return within(-most, most)
}

// inOrder refuses ranges whose lower end is greater than the upper one.
func inOrder(l ...api.Range) api.Errno {
	for _, r := range l {
		if r.Lo > r.Hi {
			return api.ErrOrder
		}
	}
	return api.OK
}

// checkRange checks the ends of a range, then their order.
func checkRange(r api.Range, ends func(...int) api.Errno) api.Errno {
	return firstOf(ends(r.Lo, r.Hi), inOrder(r))
}

// checkCount refuses fewer items than 1, and more than most.
func checkCount(n, most int) api.Errno {
	if n < 1 {
		return api.ErrShape
	}
	if n > most {
		return api.ErrLarge
	}
	return api.OK
}

// checkKind refuses what is not a kind of forces.
func checkKind(kind int) api.Errno {
	if kind < 0 || kind >= api.ForceKinds {
		return api.ErrKind
	}
	return api.OK
}

// checkUnit refuses what is not a unit force.
func checkUnit(unit int) api.Errno {
	return within(0, api.MaxForceUnit)(unit)
}

// CheckWindow accepts a window.
func CheckWindow(w api.ForceWindow) api.Errno {
	if len(w.Inner) != len(w.Outer) {
		return api.ErrShape
	}
	turns := sized(api.MaxForceTurns)
	if e := firstOf(checkCount(len(w.Inner), mostLevels), turns(w.Inner...), turns(w.Outer...)); e != api.OK {
		return e
	}
	if sumOf(w.Inner)+sumOf(w.Outer) != 0 {
		return api.ErrClash
	}
	return api.OK
}

// CheckFault accepts a fault.
func CheckFault(f api.ForceFault) api.Errno {
	voltage := within(0, api.MaxForceSource)(f.Voltage.Lo, f.Voltage.Hi)
	impedance := within(1, api.MaxForceSource)(f.Impedance.Lo, f.Impedance.Hi)
	return firstOf(voltage, impedance, inOrder(f.Voltage, f.Impedance), checkFactor(f.Factor))
}

func checkFactor(f api.Frac) api.Errno {
	if f.Den <= 0 || divisor(f.Num, f.Den) != 1 {
		return api.ErrForm
	}
	return within(1, api.MaxForceFactor)(f.Num, f.Den)
}

// CheckDesign accepts a design.
func CheckDesign(d api.ForceDesign) api.Errno {
	taps := firstOf(checkCount(len(d.Taps), api.MaxForceTaps), checkInner(d.Inner))
	if e := firstOf(taps, checkTaps(d), checkRange(d.Shifts, sized(api.MaxForceShift))); e != api.OK {
		return e
	}
	if e := firstOf(checkCount(len(d.Faults), api.MaxForceFaults), checkFaults(d.Faults)); e != api.OK {
		return e
	}
	return within(1, api.MaxForceLimit)(d.Limits[:]...)
}

// checkInner refuses an inner winding that is too high. One without levels is refused with the first tap.
func checkInner(turns []int) api.Errno {
	if len(turns) > api.MaxForceLevels {
		return api.ErrLarge
	}
	return api.OK
}

// checkTaps checks the windows of the inner winding and each tap.
func checkTaps(d api.ForceDesign) api.Errno {
	for _, turns := range d.Taps {
		if e := CheckWindow(api.ForceWindow{Inner: d.Inner, Outer: turns}); e != api.OK {
			return e
		}
	}
	return api.OK
}

func checkFaults(l []api.ForceFault) api.Errno {
	for _, f := range l {
		if e := CheckFault(f); e != api.OK {
			return e
		}
	}
	return api.OK
}

// checkClamp checks the ranges of a clamp one by one.
func checkClamp(c api.ForceClamp) api.Errno {
	force := checkRange(c.Force, within(0, api.MaxForceClamp))
	stiffness := checkRange(c.Stiffness, within(0, api.MaxForcePart))
	shrink := checkRange(c.Shrink, within(0, api.MaxForceShrink))
	return firstOf(force, stiffness, shrink)
}
