package force

import "buchholz/api"

// clamped returns what is clamped after drying, of a valid clamp.
func clamped(c api.ForceClamp) api.Range {
	return api.Range{
		Lo: c.Force.Lo - c.Stiffness.Hi*c.Shrink.Hi,
		Hi: c.Force.Hi - c.Stiffness.Lo*c.Shrink.Lo,
	}
}

// ClampedOf returns what is clamped after drying.
func ClampedOf(c api.ForceClamp) (api.Range, api.Errno) {
	if e := checkClamp(c); e != api.OK {
		return api.Range{}, e
	}
	return clamped(c), api.OK
}

// StaysClamped returns whether what is clamped stays so at a fault against a unit force.
func StaysClamped(c api.ForceClamp, f api.ForceFault, unit int) (int, api.Errno) {
	if e := checkClamp(c); e != api.OK {
		return 0, e
	}
	x, e := checkedFault(f)
	if e = firstOf(e, checkUnit(unit)); e != api.OK {
		return 0, e
	}
	return answerOf(clamped(c), x.forces(unit)), api.OK
}

// BucklingOf returns the buckling limit of a coil.
func BucklingOf(c api.ForceCoil) (api.Frac, api.Errno) {
	parts := within(1, api.MaxForcePart)(c.Modulus, c.Inertia, c.Radius)
	if e := firstOf(parts, within(2, api.MaxForceSupport)(c.Supports)); e != api.OK {
		return api.Frac{}, e
	}
	return reduced(c.Modulus*c.Inertia*(c.Supports*c.Supports-1), c.Radius*c.Radius*c.Radius), api.OK
}
