package group

import "buchholz/api"

// phasor is an api.GroupPhasor whose parts are small enough for its methods.
type phasor api.GroupPhasor

// limbPhasors is the phasors of a turn on each limb: 1, w w and w.
var limbPhasors = [3]phasor{{1, 0}, {-1, -1}, {0, 1}}

// hourPhasors is, by hours, the phasors without a common divisor of their parts.
var hourPhasors = [12]phasor{
	{1, 0}, {2, 1}, {1, 1}, {1, 2}, {0, 1}, {-1, 1},
	{-1, 0}, {-2, -1}, {-1, -1}, {-1, -2}, {0, -1}, {1, -1},
}

func (z phasor) times(by phasor) phasor {
	return phasor{z.P*by.P - z.Q*by.Q, z.P*by.Q + z.Q*by.P - z.Q*by.Q}
}

func (z phasor) square() int {
	return z.P*z.P - z.P*z.Q + z.Q*z.Q
}

func (z phasor) hours() (int, api.Errno) {
	if z == (phasor{}) {
		return 0, api.ErrZero
	}
	d := divisor(z.P, z.Q)
	least := phasor{z.P / d, z.Q / d}
	for h, x := range hourPhasors {
		if least == x {
			return h, api.OK
		}
	}
	return 0, api.ErrNone
}

// Product returns the product of two phasors.
func Product(a, b api.GroupPhasor) (api.GroupPhasor, api.Errno) {
	if e := firstOf(checkPhasor(a), checkPhasor(b)); e != api.OK {
		return api.GroupPhasor{}, e
	}
	return api.GroupPhasor(phasor(a).times(phasor(b))), api.OK
}

// SquareOf returns the square of a phasor's size.
func SquareOf(z api.GroupPhasor) (int, api.Errno) {
	if e := checkPhasor(z); e != api.OK {
		return 0, e
	}
	return phasor(z).square(), api.OK
}

// HoursOf returns the angle of a phasor in twelfths of a turn, if this is a whole number.
func HoursOf(z api.GroupPhasor) (int, api.Errno) {
	if e := checkPhasor(z); e != api.OK {
		return 0, e
	}
	return phasor(z).hours()
}
