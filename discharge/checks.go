// Package discharge is chapter 9: partial discharges, their sources as a region, and frequency responses with their deformations. See shared/doc/09-discharge.md.
package discharge

import "buchholz/api"

// leastSensors is how many sensors arrivals have at least.
const leastSensors = 2

// firstOf returns the first error, or OK.
func firstOf(l ...api.Errno) api.Errno {
	for _, e := range l {
		if e != api.OK {
			return e
		}
	}
	return api.OK
}

// errorOf returns an error without its index.
func errorOf(_ int, e api.Errno) api.Errno {
	return e
}

// within returns the check that refuses numbers that are not from lo to hi.
func within(lo, hi int) func(...int) api.Errno {
	return func(l ...int) api.Errno {
		for _, n := range l {
			if n < lo || n > hi {
				return api.ErrRange
			}
		}
		return api.OK
	}
}

// sized returns the check that refuses numbers that are greater in size than most.
func sized(most int) func(...int) api.Errno {
	return within(-most, most)
}

// checkCount refuses fewer items than least, and more than most.
func checkCount(n, least, most int) api.Errno {
	if n < least {
		return api.ErrShape
	}
	if n > most {
		return api.ErrLarge
	}
	return api.OK
}

// sameCount refuses two lists that do not have as many items.
func sameCount(a, b int) api.Errno {
	if a != b {
		return api.ErrShape
	}
	return api.OK
}

// inOrder refuses a range whose lower end is greater than the upper one.
func inOrder(r api.Range) api.Errno {
	if r.Lo > r.Hi {
		return api.ErrOrder
	}
	return api.OK
}

// inForm refuses fractions that are not in lowest terms with Den above 0.
func inForm(l ...api.Frac) api.Errno {
	for _, f := range l {
		if !isReduced(f) {
			return api.ErrForm
		}
	}
	return api.OK
}

// checkEach returns the index of the first item that is refused, and its error.
func checkEach[T any](l []T, check func(int, T) api.Errno) (int, api.Errno) {
	for i, item := range l {
		if e := check(i, item); e != api.OK {
			return i, e
		}
	}
	return 0, api.OK
}

// checkName refuses a string that is not a name.
func checkName(s string) api.Errno {
	if s == "" || len(s) > api.MaxName || !isLetter(s[0]) {
		return api.ErrName
	}
	for i := range len(s) {
		if !isLetter(s[i]) && !isDigit(s[i]) && s[i] != '-' {
			return api.ErrName
		}
	}
	return api.OK
}

func isLetter(c byte) bool {
	return c >= 'a' && c <= 'z' || c >= 'A' && c <= 'Z'
}

func isDigit(c byte) bool {
	return c >= '0' && c <= '9'
}

func checkCalibration(c api.Span) api.Errno {
	parts := within(1, api.MaxPart)
	if e := firstOf(inForm(c.Lo, c.Hi), parts(c.Lo.Num, c.Lo.Den, c.Hi.Num, c.Hi.Den)); e != api.OK {
		return e
	}
	if isLess(c.Hi, c.Lo) {
		return api.ErrOrder
	}
	return api.OK
}

// checkPulse accepts a pulse alone.
func checkPulse(p api.DischargePulse) api.Errno {
	e := firstOf(
		within(0, api.MaxTick)(p.At),
		sized(api.MaxDischargeAmplitude)(p.Amplitude),
		within(1, api.MaxDischargeWidth)(p.Width),
	)
	if e == api.OK && p.Amplitude == 0 {
		return api.ErrZero
	}
	return e
}

// CheckSeries accepts a series: it returns the index of the first wrong pulse, and its error.
func CheckSeries(s api.DischargeSeries) (int, api.Errno) {
	e := firstOf(
		checkName(s.Sensor),
		within(1, api.MaxDischargePeriod)(s.Period),
		within(1, api.MaxDischargePulses)(s.Least),
		checkCalibration(s.Calibration),
		checkCount(len(s.Pulses), 0, api.MaxDischargePulses),
	)
	if e != api.OK {
		return 0, e
	}
	return checkEach(s.Pulses, func(i int, p api.DischargePulse) api.Errno {
		if e := checkPulse(p); e != api.OK {
			return e
		}
		if i > 0 && p.At <= s.Pulses[i-1].At {
			return api.ErrOrder
		}
		return api.OK
	})
}

func checkWindow(window int) api.Errno {
	return within(0, api.MaxDischargePeriod)(window)
}

// checkPlace refuses a point with a coordinate that is too great in size.
func checkPlace(point [3]int) api.Errno {
	return sized(api.MaxDischargePlace)(point[:]...)
}

// CheckGrid accepts a grid.
func CheckGrid(g api.DischargeGrid) api.Errno {
	return firstOf(
		checkPlace(g.First),
		within(1, api.MaxDischargeStep)(g.Step),
		within(1, api.MaxDischargeCells)(g.Counts[:]...),
	)
}

// checkCell refuses what is not a cell of a grid.
func checkCell(g api.DischargeGrid, cell [3]int) api.Errno {
	for axis, index := range cell {
		if index < 0 || index >= g.Counts[axis] {
			return api.ErrMissing
		}
	}
	return api.OK
}

// CheckArrivals accepts arrivals: it returns the index of the first wrong sensor, and its error.
func CheckArrivals(a api.DischargeArrivals) (int, api.Errno) {
	e := firstOf(
		within(1, api.MaxDischargeSpeed)(a.Speed.Lo, a.Speed.Hi),
		inOrder(a.Speed),
		checkCount(len(a.Sensors), leastSensors, api.MaxDischargeSensors),
	)
	if e != api.OK {
		return 0, e
	}
	times := within(0, api.MaxDischargeTime)
	return checkEach(a.Sensors, func(_ int, s api.DischargeSensor) api.Errno {
		return firstOf(checkPlace(s.Position), times(s.Times.Lo, s.Times.Hi), inOrder(s.Times))
	})
}

// CheckNetwork accepts a network: it returns the index of the first wrong section, and its error.
func CheckNetwork(n api.DischargeNetwork) (int, api.Errno) {
	if e := checkCount(len(n.Sections), 1, api.MaxDischargeSections); e != api.OK {
		return 0, e
	}
	return checkEach(n.Sections, func(_ int, s api.DischargeSection) api.Errno {
		return firstOf(within(0, api.MaxDischargeR)(s.R), within(0, api.MaxDischargeLC)(s.L, s.C))
	})
}

// checkFrequencies refuses frequencies that are too many, or too high.
func checkFrequencies(l ...int) api.Errno {
	count := checkCount(len(l), 0, api.MaxDischargeFrequencies)
	return firstOf(count, within(0, api.MaxDischargeFrequency)(l...))
}

// checkResponses refuses responses that are too many, or too great.
func checkResponses(l []api.Gauss) api.Errno {
	if e := checkCount(len(l), 0, api.MaxDischargeFrequencies); e != api.OK {
		return e
	}
	parts := sized(api.MaxDischargeResponse)
	return errorOf(checkEach(l, func(_ int, r api.Gauss) api.Errno { return parts(r.Re, r.Im) }))
}

func checkMeasured(m api.DischargeMeasured) api.Errno {
	return firstOf(
		checkFrequencies(m.Frequencies...),
		checkResponses(m.Responses),
		sameCount(len(m.Frequencies), len(m.Responses)),
	)
}

func checkRatio(ratio api.Frac) api.Errno {
	if e := firstOf(inForm(ratio), within(1, api.MaxDischargeRatio)(ratio.Num, ratio.Den)); e != api.OK {
		return e
	}
	if ratio.Num < ratio.Den {
		return api.ErrRange
	}
	return api.OK
}

// checkList refuses deformations that are too many, or not those of a network with so many sections.
func checkList(l []api.DischargeDeformation, sections int) api.Errno {
	if e := checkCount(len(l), 0, api.MaxDischargeDeformations); e != api.OK {
		return e
	}
	return errorOf(checkEach(l, func(_ int, d api.DischargeDeformation) api.Errno {
		switch {
		case d.Section < 0 || d.Section >= sections:
			return api.ErrMissing
		case d.Kind < 0 || d.Kind >= api.DischargeKinds:
			return api.ErrKind
		}
		return sized(api.MaxDischargePart)(d.By)
	}))
}

// checkSet refuses what is not a set of indexes of so many items.
func checkSet(set []int, items int) api.Errno {
	return errorOf(checkEach(set, func(i, index int) api.Errno {
		switch {
		case index < 0 || index >= items:
			return api.ErrMissing
		case i > 0 && index <= set[i-1]:
			return api.ErrOrder
		}
		return api.OK
	}))
}
