// Package group is chapter 1: windings as whole turns on limbs, clock numbers, renamed terminals, parallel units and their currents. See shared/doc/01-group.md.
package group

import "buchholz/api"

// within returns a limit: it refuses numbers that are not from lo to hi.
func within(lo, hi int) func(...int) api.Errno {
	return func(l ...int) api.Errno {
		for _, n := range l {
			if n < lo || n > hi {
				return api.ErrRange
			}
		}
		return api.OK
	}
}

// sized returns a limit of sizes. It does not negate what it compares: the least int has no opposite.
func sized(most int) func(...int) api.Errno {
	return within(-most, most)
}

// firstOf returns the first error, or OK.
func firstOf(l ...api.Errno) api.Errno {
	for _, e := range l {
		if e != api.OK {
			return e
		}
	}
	return api.OK
}

// CheckWinding accepts a winding of a valid kind, with turns and a shift in their limits.
func CheckWinding(w api.GroupWinding) api.Errno {
	return firstOf(checkKind(w.Kind), within(1, api.MaxGroupTurns)(w.Turns), within(0, 2)(w.Shift))
}

func checkKind(kind int) api.Errno {
	if kind < 0 || kind >= api.GroupKinds {
		return api.ErrKind
	}
	return api.OK
}

// CheckLines accepts lines whose numbers are not too great in size.
func CheckLines(l api.GroupLines) api.Errno {
	limit := sized(api.MaxGroupLine)
	return firstOf(limit(l[0][:]...), limit(l[1][:]...), limit(l[2][:]...))
}

func checkPhasor(z api.GroupPhasor) api.Errno {
	return sized(api.MaxGroupPart)(z.P, z.Q)
}

// CheckUnit accepts a unit of valid windings with a valid step.
func CheckUnit(u api.GroupUnit) api.Errno {
	return firstOf(CheckWinding(u.High), CheckWinding(u.Low), within(0, api.MaxGroupStep)(u.Step))
}

func checkTurn(a api.GroupTurn) api.Errno {
	return within(0, 11)(a.Hours)
}

func checkPermutation(p [3]int) api.Errno {
	for _, q := range permutations {
		if p == q {
			return api.OK
		}
	}
	return api.ErrForm
}

func checkPair(u, v api.GroupUnit, percent int) api.Errno {
	return firstOf(CheckUnit(u), CheckUnit(v), within(0, api.MaxGroupPercent)(percent))
}

func checkSources(l []api.GroupSource) api.Errno {
	if len(l) == 0 {
		return api.ErrShape
	}
	if len(l) > api.MaxGroupUnits {
		return api.ErrLarge
	}
	drop := within(1, api.MaxGroupDrop)
	for _, s := range l {
		if e := firstOf(checkPhasor(s.Voltage), checkForm(s.Impedance), drop(s.Impedance.Num, s.Impedance.Den)); e != api.OK {
			return e
		}
	}
	return api.OK
}

// checkForm refuses fractions that are not in lowest terms with Den above 0.
func checkForm(f api.Frac) api.Errno {
	if f.Den <= 0 || divisor(f.Num, f.Den) != 1 {
		return api.ErrForm
	}
	return api.OK
}

func checkSize(f api.Frac) api.Errno {
	return sized(api.MaxPart)(f.Num, f.Den)
}
