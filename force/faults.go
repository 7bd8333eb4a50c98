package force

import "buchholz/api"

// fault is a valid fault.
type fault struct{ api.ForceFault }

func checkedFault(f api.ForceFault) (fault, api.Errno) {
	if e := CheckFault(f); e != api.OK {
		return fault{}, e
	}
	return fault{f}, api.OK
}

// peak returns the range of the peak.
func (f fault) peak() api.Span {
	return api.Span{
		Lo: reduced(f.Voltage.Lo*f.Factor.Num, f.Impedance.Hi*f.Factor.Den),
		Hi: reduced(f.Voltage.Hi*f.Factor.Num, f.Impedance.Lo*f.Factor.Den),
	}
}

// forces returns a unit force times the squares of both ends of the peak, rounded up: a whole number is at least such a force if it is at least the force rounded up.
func (f fault) forces(unit int) api.Range {
	p := f.peak()
	return api.Range{Lo: forceAt(unit, p.Lo), Hi: forceAt(unit, p.Hi)}
}

// forceAt returns a unit force times the square of a current, rounded up.
func forceAt(unit int, current api.Frac) int {
	return roundedUp(unit*current.Num*current.Num, current.Den*current.Den)
}

// answerOf returns whether what stands against forces is at least as great.
func answerOf(against, forces api.Range) int {
	if against.Lo >= forces.Hi {
		return api.AnswerYes
	}
	if against.Hi < forces.Lo {
		return api.AnswerNo
	}
	return api.AnswerMaybe
}

// holds returns whether a force with a unit holds a limit.
func (f fault) holds(unit, limit int) int {
	return answerOf(api.Range{Lo: limit, Hi: limit}, f.forces(unit))
}

// PeakOf returns the range of the peak of a fault.
func PeakOf(f api.ForceFault) (api.Span, api.Errno) {
	c, e := checkedFault(f)
	if e != api.OK {
		return api.Span{}, e
	}
	return c.peak(), api.OK
}

// HoldsAt returns whether a force with a unit holds a limit at a fault.
func HoldsAt(f api.ForceFault, unit, limit int) (int, api.Errno) {
	c, e := checkedFault(f)
	if e = firstOf(e, checkUnit(unit), within(1, api.MaxForceLimit)(limit)); e != api.OK {
		return 0, e
	}
	return c.holds(unit, limit), api.OK
}
