// Package surge is chapter 4: ladders of capacitances and their distributions of a surge, impulses, waves on lines, and creep paths. See shared/doc/04-surge.md.
package surge

import "buchholz/api"

// firstOf returns the first error, or OK.
func firstOf(l ...api.Errno) api.Errno {
	for _, e := range l {
		if e != api.OK {
			return e
		}
	}
	return api.OK
}

// errorOf returns an error without its index.
func errorOf(_ int, e api.Errno) api.Errno {
	return e
}

// within returns the check that refuses numbers that are not from lo to hi.
func within(lo, hi int) func(...int) api.Errno {
	return func(l ...int) api.Errno {
		for _, n := range l {
			if n < lo || n > hi {
				return api.ErrRange
			}
		}
		return api.OK
	}
}

// sized returns the check that refuses numbers that are greater in size than most.
func sized(most int) func(...int) api.Errno {
	return within(-most, most)
}

// checkCount refuses fewer items than least, and more than most.
func checkCount(n, least, most int) api.Errno {
	if n < least {
		return api.ErrShape
	}
	if n > most {
		return api.ErrLarge
	}
	return api.OK
}

// checkSections refuses no sections, lists that are not as long as the sections are many, and too many sections.
func checkSections(sections int, others ...int) api.Errno {
	for _, n := range others {
		if n != sections {
			return api.ErrShape
		}
	}
	return checkCount(sections, 1, api.MaxSurgeSections)
}

// CheckLadder accepts a ladder.
func CheckLadder(l api.SurgeLadder) api.Errno {
	if e := checkSections(len(l.Series), len(l.Earth), len(l.Turns)); e != api.OK {
		return e
	}
	series, earth := within(1, api.MaxSurgeCapacitance), within(0, api.MaxSurgeCapacitance)
	turns := within(1, api.MaxSurgeTurns)
	for i := range l.Series {
		if e := firstOf(series(l.Series[i]), earth(l.Earth[i]), turns(l.Turns[i])); e != api.OK {
			return e
		}
	}
	return api.OK
}

// CheckRanges accepts a ladder with ranges.
func CheckRanges(r api.SurgeRanges) api.Errno {
	if e := checkSections(len(r.Series), len(r.Earth)); e != api.OK {
		return e
	}
	for i := range r.Series {
		if e := checkSection(r.Series[i], r.Earth[i]); e != api.OK {
			return e
		}
	}
	return api.OK
}

// checkSection checks the ranges of a section: all ends of both before their order.
func checkSection(series, earth api.Range) api.Errno {
	seriesEnds := within(1, api.MaxSurgeCapacitance)(series.Lo, series.Hi)
	earthEnds := within(0, api.MaxSurgeCapacitance)(earth.Lo, earth.Hi)
	if e := firstOf(seriesEnds, earthEnds); e != api.OK {
		return e
	}
	if series.Lo > series.Hi || earth.Lo > earth.Hi {
		return api.ErrOrder
	}
	return api.OK
}

// checkFractions returns the index of the first malformed or too large fraction, and its error.
func checkFractions(l []api.Frac) (int, api.Errno) {
	for i, f := range l {
		if f.Den <= 0 || divisor(f.Num, f.Den) != 1 {
			return i, api.ErrForm
		}
		if e := sized(api.MaxPart)(f.Num, f.Den); e != api.OK {
			return i, e
		}
	}
	return 0, api.OK
}

func checkDistribution(u []api.Frac) api.Errno {
	return firstOf(checkCount(len(u), 2, api.MaxSurgeSections+1), errorOf(checkFractions(u)))
}

// CheckImpulse accepts an impulse: it returns the index of the first wrong point, and its error.
func CheckImpulse(x api.SurgeImpulse) (int, api.Errno) {
	if e := checkCount(len(x.Points), 2, api.MaxSurgePoints); e != api.OK {
		return 0, e
	}
	for i, p := range x.Points {
		if e := firstOf(within(0, api.MaxSurgeTime)(p.Time), sized(api.MaxSurgeVoltage)(p.Voltage)); e != api.OK {
			return i, e
		}
		if i > 0 && p.Time <= x.Points[i-1].Time {
			return i, api.ErrOrder
		}
	}
	return 0, api.OK
}

// CheckLine accepts a line.
func CheckLine(l api.SurgeLine) api.Errno {
	count := checkCount(len(l.Admittances), 1, api.MaxSurgeLine)
	return firstOf(count, within(1, api.MaxSurgeAdmittance)(l.Admittances...))
}

// checkState checks a state of a line with so many sections.
func checkState(s api.SurgeState, sections int) api.Errno {
	if len(s.Forward) != sections || len(s.Back) != sections {
		return api.ErrShape
	}
	wave := sized(api.MaxSurgeWave)
	return firstOf(wave(s.Forward...), wave(s.Back...))
}

// checkPath checks a path between so many nodes. The paths before it are given.
func checkPath(p api.SurgePath, nodes int, before []api.SurgePath) api.Errno {
	if !isName(p.Name) {
		return api.ErrName
	}
	for _, q := range before {
		if p.Name == q.Name {
			return api.ErrExists
		}
	}
	if within(0, nodes-1)(p.From, p.To) != api.OK {
		return api.ErrMissing
	}
	if p.From == p.To {
		return api.ErrForm
	}
	return firstOf(within(1, api.MaxSurgeLength)(p.Length), within(0, api.MaxSurgeVoltage)(p.Limit))
}

func isName(s string) bool {
	if s == "" || len(s) > api.MaxName || !isLetter(s[0]) {
		return false
	}
	for i := range len(s) {
		if !isLetter(s[i]) && !isDigit(s[i]) && s[i] != '-' {
			return false
		}
	}
	return true
}

func isLetter(c byte) bool {
	return c >= 'a' && c <= 'z' || c >= 'A' && c <= 'Z'
}

func isDigit(c byte) bool {
	return c >= '0' && c <= '9'
}
