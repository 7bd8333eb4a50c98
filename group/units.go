package group

import (
	"strconv"

	"buchholz/api"
)

// hoursFrom returns the hours of lines that are those of a valid winding, renamed or not: they are whole.
func hoursFrom(l lines) int {
	h, _ := l.phasorAt(0).hours()
	return h
}

// clockFrom returns the clock number of a valid unit.
func clockFrom(u api.GroupUnit) int {
	return modulo(hoursFrom(linesFrom(u.High))-hoursFrom(linesFrom(u.Low)), 12)
}

// ratioFrom returns the ratio square of a valid unit.
func ratioFrom(u api.GroupUnit) api.Frac {
	return reduced(linesFrom(u.High).phasorAt(0).square(), linesFrom(u.Low).phasorAt(0).square())
}

// ClockOf returns the clock number of a unit.
func ClockOf(u api.GroupUnit) (int, api.Errno) {
	if e := CheckUnit(u); e != api.OK {
		return 0, e
	}
	return clockFrom(u), api.OK
}

// NameOf returns the name of a unit, such as Dy11.
func NameOf(u api.GroupUnit) (string, api.Errno) {
	if e := CheckUnit(u); e != api.OK {
		return "", e
	}
	return capitals[u.High.Kind:u.High.Kind+1] + letterOf(u.Low.Kind) + strconv.Itoa(clockFrom(u)), api.OK
}

// LowFor returns the first low-voltage winding of a kind that gives a unit with the clock number.
func LowFor(high api.GroupWinding, kind, clock int) (api.GroupWinding, api.Errno) {
	if e := firstOf(CheckWinding(high), checkKind(kind), within(0, 11)(clock)); e != api.OK {
		return api.GroupWinding{}, e
	}
	for _, reversed := range [2]bool{false, true} {
		for shift := range 3 {
			low := api.GroupWinding{Kind: kind, Turns: high.Turns, Shift: shift, Reversed: reversed}
			if clockFrom(api.GroupUnit{High: high, Low: low}) == clock {
				return low, api.OK
			}
		}
	}
	return api.GroupWinding{}, api.ErrNone
}

// Tapped returns the unit with the turns of a tap.
func Tapped(u api.GroupUnit, tap int) (api.GroupUnit, api.Errno) {
	if e := firstOf(CheckUnit(u), sized(api.MaxGroupTap)(tap)); e != api.OK {
		return api.GroupUnit{}, e
	}
	u.High.Turns += tap * u.Step
	if e := CheckUnit(u); e != api.OK {
		return api.GroupUnit{}, e
	}
	return u, api.OK
}

// RatioSquare returns the square of the ratio of a unit's voltages.
func RatioSquare(u api.GroupUnit) (api.Frac, api.Errno) {
	if e := CheckUnit(u); e != api.OK {
		return api.Frac{}, e
	}
	return ratioFrom(u), api.OK
}
