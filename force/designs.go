package force

import (
	"math/bits"

	"buchholz/api"
)

// design is a valid design.
type design struct{ api.ForceDesign }

// load is the load of a case, as a numerator and a denominator. Both may be greater than parts of fractions.
type load struct{ num, den int }

func checkedDesign(d api.ForceDesign) (design, api.Errno) {
	if e := CheckDesign(d); e != api.OK {
		return design{}, e
	}
	return design{d}, api.OK
}

// checkedCase returns a valid design of which a case is one.
func checkedCase(d api.ForceDesign, c api.ForceCase) (design, api.Errno) {
	x, e := checkedDesign(d)
	if e != api.OK {
		return design{}, e
	}
	if e := x.checkCase(c); e != api.OK {
		return design{}, e
	}
	return x, api.OK
}

// checkCase refuses what is not one of the cases.
func (d design) checkCase(c api.ForceCase) api.Errno {
	if e := checkKind(c.Kind); e != api.OK {
		return e
	}
	if c.Tap < 0 || c.Tap >= len(d.Taps) || c.Fault < 0 || c.Fault >= len(d.Faults) {
		return api.ErrMissing
	}
	return within(d.Shifts.Lo, d.Shifts.Hi)(c.Shift)
}

// cases yields all cases in their order.
func (d design) cases(yield func(api.ForceCase) bool) {
	for kind := range api.ForceKinds {
		for tap := range d.Taps {
			for shift := d.Shifts.Lo; shift <= d.Shifts.Hi; shift++ {
				for fault := range d.Faults {
					if !yield(api.ForceCase{Kind: kind, Tap: tap, Shift: shift, Fault: fault}) {
						return
					}
				}
			}
		}
	}
}

// window returns the window of a case.
func (d design) window(c api.ForceCase) window {
	w := window{api.ForceWindow{Inner: d.Inner, Outer: d.Taps[c.Tap]}}
	return w.shifted(c.Shift)
}

// unit returns the unit force of a case.
func (d design) unit(c api.ForceCase) int {
	return d.window(c).unit(c.Kind)
}

// fault returns the fault of a case.
func (d design) fault(c api.ForceCase) fault {
	return fault{d.Faults[c.Fault]}
}

// load returns the load of a case.
func (d design) load(c api.ForceCase) load {
	p := d.fault(c).peak().Hi
	return load{num: d.unit(c) * p.Num * p.Num, den: p.Den * p.Den * d.Limits[c.Kind]}
}

// isGreater returns whether a load is greater than another one. The products may need more than 64 bits.
func isGreater(l, than load) bool {
	high, low := bits.Mul64(uint64(l.num), uint64(than.den))
	thanHigh, thanLow := bits.Mul64(uint64(than.num), uint64(l.den))
	return high > thanHigh || high == thanHigh && low > thanLow
}

// holds returns whether the force of a case holds its limit.
func (d design) holds(c api.ForceCase) int {
	return d.fault(c).holds(d.unit(c), d.Limits[c.Kind])
}

// WindowOf returns the window of a case.
func WindowOf(d api.ForceDesign, c api.ForceCase) (api.ForceWindow, api.Errno) {
	x, e := checkedCase(d, c)
	if e != api.OK {
		return api.ForceWindow{}, e
	}
	return x.window(c).ForceWindow, api.OK
}

// WorstOf returns the first case with the maximum load.
func WorstOf(d api.ForceDesign) (api.ForceCase, api.Errno) {
	x, e := checkedDesign(d)
	if e != api.OK {
		return api.ForceCase{}, e
	}
	worst := api.ForceCase{Shift: x.Shifts.Lo} // the first case, also if no case has a load
	most := x.load(worst)
	for c := range x.cases {
		if l := x.load(c); isGreater(l, most) {
			worst, most = c, l
		}
	}
	return worst, api.OK
}

// CheckWorst accepts a case whose load is the maximum. Otherwise it returns the first case whose load is greater.
func CheckWorst(d api.ForceDesign, c api.ForceCase) (api.ForceCase, api.Errno) {
	x, e := checkedCase(d, c)
	if e != api.OK {
		return api.ForceCase{}, e
	}
	most := x.load(c)
	for other := range x.cases {
		if isGreater(x.load(other), most) {
			return other, api.ErrProof
		}
	}
	return api.ForceCase{}, api.OK
}

// Withstands returns whether all forces of a design hold: the least of their answers.
func Withstands(d api.ForceDesign) (int, api.Errno) {
	x, e := checkedDesign(d)
	if e != api.OK {
		return 0, e
	}
	answer := api.AnswerYes
	for c := range x.cases {
		answer = min(answer, x.holds(c))
	}
	return answer, api.OK
}
