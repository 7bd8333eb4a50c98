package wave

import "buchholz/api"

// ScaleOf returns the product of all factors of the chain.
func ScaleOf(r api.WaveRules) (api.Span, api.Errno) {
	if e := CheckRules(r); e != api.OK {
		return api.Span{}, e
	}
	one := api.Frac{Num: 1, Den: 1}
	scale := api.Span{Lo: one, Hi: one}
	for _, f := range r.Chain {
		scale = api.Span{Lo: product(scale.Lo, f.Lo), Hi: product(scale.Hi, f.Hi)}
	}
	if isTooLarge(scale.Lo) || isTooLarge(scale.Hi) {
		return api.Span{}, api.ErrLarge
	}
	return scale, api.OK
}

// checkTimed refuses figures, and a step.
func checkTimed(f api.WaveFigures, step int) api.Errno {
	return firstOf(CheckFigures(f), checkStep(step))
}

// FrontOf returns the front time of figures in ticks.
func FrontOf(f api.WaveFigures, step int) (api.Range, api.Errno) {
	if e := checkTimed(f, step); e != api.OK {
		return api.Range{}, e
	}
	lo := 5 * (f.T90.Lo - f.T30.Hi)
	hi := 5 * (f.T90.Hi - f.T30.Lo)
	return rounded(lo*step, hi*step, 3), api.OK
}

// TailOf returns the tail time of figures in ticks.
func TailOf(f api.WaveFigures, step int) (api.Range, api.Errno) {
	if e := checkTimed(f, step); e != api.OK {
		return api.Range{}, e
	}
	lo := 2*f.Half.Lo - 3*f.T30.Hi + f.T90.Lo
	hi := 2*f.Half.Hi - 3*f.T30.Lo + f.T90.Hi
	return rounded(lo*step, hi*step, 2), api.OK
}

// VoltageOf returns the voltage of figures.
func VoltageOf(r api.WaveRules, f api.WaveFigures) (api.Range, api.Errno) {
	scale, e := ScaleOf(r)
	if e = firstOf(e, CheckFigures(f)); e != api.OK {
		return api.Range{}, e
	}
	return api.Range{
		Lo: roundedDown(f.Peak.Lo*scale.Lo.Num, scale.Lo.Den),
		Hi: roundedUp(f.Peak.Hi*scale.Hi.Num, scale.Hi.Den),
	}, api.OK
}

// AnswerFor returns whether a value lies within limits.
func AnswerFor(value, limits api.Range) (int, api.Errno) {
	isValue := sized(api.MaxWaveValue)
	if e := firstOf(checkRange(value, isValue), checkRange(limits, isValue)); e != api.OK {
		return 0, e
	}
	switch {
	case value.Lo >= limits.Lo && value.Hi <= limits.Hi:
		return api.AnswerYes, api.OK
	case value.Hi < limits.Lo || value.Lo > limits.Hi:
		return api.AnswerNo, api.OK
	}
	return api.AnswerMaybe, api.OK
}
