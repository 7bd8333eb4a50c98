// Package wave is chapter 8: recorded impulses, differences that exist for all errors, losses and heat runs. See shared/doc/08-wave.md.
package wave

import "buchholz/api"

// leastSamples is how many samples a record has at least.
const leastSamples = 3

// firstOf returns the first error, or OK.
func firstOf(l ...api.Errno) api.Errno {
	for _, e := range l {
		if e != api.OK {
			return e
		}
	}
	return api.OK
}

// within returns the check that refuses numbers that are not from lo to hi.
func within(lo, hi int) func(...int) api.Errno {
	return func(l ...int) api.Errno {
		for _, n := range l {
			if n < lo || n > hi {
				return api.ErrRange
			}
		}
		return api.OK
	}
}

// sized returns the check that refuses numbers that are greater in size than most.
func sized(most int) func(...int) api.Errno {
	return within(-most, most)
}

// inOrder refuses ranges whose lower end is greater than the upper one.
func inOrder(l ...api.Range) api.Errno {
	for _, r := range l {
		if r.Lo > r.Hi {
			return api.ErrOrder
		}
	}
	return api.OK
}

// checkRange refuses a range with an end that a check refuses, or with ends in the wrong order.
func checkRange(r api.Range, check func(...int) api.Errno) api.Errno {
	return firstOf(check(r.Lo, r.Hi), inOrder(r))
}

func checkStep(step int) api.Errno {
	return within(1, api.MaxWaveStep)(step)
}

func checkError(e int) api.Errno {
	return within(0, api.MaxWaveError)(e)
}

func checkTemperatures(l ...int) api.Errno {
	return within(-500, api.MaxWaveTemperature)(l...)
}

// checkCount refuses a number of samples.
func checkCount(samples int) api.Errno {
	if samples < leastSamples {
		return api.ErrShape
	}
	if samples > api.MaxWaveSamples {
		return api.ErrLarge
	}
	return api.OK
}

// CheckRecord accepts a record.
func CheckRecord(x api.WaveRecord) api.Errno {
	if e := firstOf(checkStep(x.Step), checkCount(len(x.Samples))); e != api.OK {
		return e
	}
	return sized(api.MaxWaveSample)(x.Samples...)
}

// checkFactor accepts a factor, as the span in which it lies.
func checkFactor(f api.Span) api.Errno {
	ends := [2]api.Frac{f.Lo, f.Hi}
	for _, end := range ends {
		if !isReduced(end) {
			return api.ErrForm
		}
	}
	isPart := within(1, api.MaxWaveFactor)
	for _, end := range ends {
		if e := isPart(end.Num, end.Den); e != api.OK {
			return e
		}
	}
	if isLess(f.Hi, f.Lo) {
		return api.ErrOrder
	}
	return api.OK
}

// CheckRules accepts rules.
func CheckRules(r api.WaveRules) api.Errno {
	if e := firstOf(checkError(r.Error), checkFactor(r.Factors)); e != api.OK {
		return e
	}
	if len(r.Chain) > api.MaxWaveChain {
		return api.ErrLarge
	}
	for _, f := range r.Chain {
		if e := checkFactor(f); e != api.OK {
			return e
		}
	}
	return api.OK
}

// CheckFigures accepts figures.
func CheckFigures(f api.WaveFigures) api.Errno {
	return firstOf(
		within(0, api.MaxWaveSamples-1)(f.At, f.T30.Lo, f.T30.Hi, f.T90.Lo, f.T90.Hi, f.Half.Lo, f.Half.Hi),
		within(1, api.MaxWaveSample+api.MaxWaveError)(f.Peak.Lo, f.Peak.Hi),
		inOrder(f.Peak, f.T30, f.T90, f.Half),
	)
}
