package wave_test

import (
	"math/big"
	"testing"

	"buchholz/api"
	"buchholz/wave"
)

// partsOf returns the range of what lies from lo to hi parts of a step.
func partsOf(lo, hi, step, parts int) api.Range {
	per := over(rat(step), rat(parts))
	return span(floorOf(times(rat(lo), per)), ceilOf(times(rat(hi), per)))
}

// frontBy returns the front time by its definition.
func frontBy(f api.WaveFigures, step int) api.Range {
	return partsOf(5*(f.T90.Lo-f.T30.Hi), 5*(f.T90.Hi-f.T30.Lo), step, 3)
}

// tailBy returns the tail time by its definition.
func tailBy(f api.WaveFigures, step int) api.Range {
	return partsOf(2*f.Half.Lo-3*f.T30.Hi+f.T90.Lo, 2*f.Half.Hi-3*f.T30.Lo+f.T90.Hi, step, 2)
}

// P8.3: the second example, other steps, and times below 0.
func TestFrontAndTailOf(t *testing.T) {
	early := api.WaveFigures{At: 3, Peak: span(99, 101), T30: span(1, 3), T90: span(2, 4), Half: span(4, 5)}
	late := api.WaveFigures{Peak: span(1, 1), T30: span(63, 63)}
	wide := api.WaveFigures{Peak: span(1, 1), T30: span(0, 63), T90: span(0, 63), Half: span(0, 63)}
	for _, x := range []struct {
		f           api.WaveFigures
		step        int
		front, tail api.Range
	}{
		{firstFigures(), 1, span(1, 4), span(5, 7)},
		{firstFigures(), 2, span(3, 7), span(11, 14)},
		{firstFigures(), 3, span(5, 10), span(16, 21)},
		{firstFigures(), 1000000, span(1666666, 3333334), span(5500000, 7000000)},
		{early, 1, span(-2, 5), span(0, 6)}, // the front from -5/3, the tail to 11/2
		{early, 2, span(-4, 10), span(1, 11)},
		{early, 3, span(-5, 15), span(1, 17)},
		{late, 1, span(-105, -105), span(-95, -94)},
		{late, 2, span(-210, -210), span(-189, -189)},
		{wide, 1, span(-105, 105), span(-95, 95)},
		{wide, 1000000, span(-105000000, 105000000), span(-94500000, 94500000)},
	} {
		if r, e := wave.FrontOf(x.f, x.step); r != x.front || e != api.OK {
			t.Error(x, r, e)
		}
		if r, e := wave.TailOf(x.f, x.step); r != x.tail || e != api.OK {
			t.Error(x, r, e)
		}
	}
	r := numbers(8)
	for range 10000 {
		f, step := r.figures(), r.from(1, r.oneOf(6, 1000, 1000000))
		if x, e := wave.FrontOf(f, step); x != frontBy(f, step) || e != api.OK {
			t.Fatal(f, step, x, e)
		}
		if x, e := wave.TailOf(f, step); x != tailBy(f, step) || e != api.OK {
			t.Fatal(f, step, x, e)
		}
	}
}

// P8.3: steps outside their range.
func TestStepErrors(t *testing.T) {
	for _, step := range []int{0, -1, 1000001, greatest, least} {
		if r, e := wave.FrontOf(firstFigures(), step); r != (api.Range{}) || e != api.ErrRange {
			t.Error(step, r, e)
		}
		if r, e := wave.TailOf(firstFigures(), step); r != (api.Range{}) || e != api.ErrRange {
			t.Error(step, r, e)
		}
	}
}

// voltageBy returns the voltage of a peak at a scale.
func voltageBy(peak api.Range, scale [2]*big.Rat) api.Range {
	return span(floorOf(times(rat(peak.Lo), scale[0])), ceilOf(times(rat(peak.Hi), scale[1])))
}

// P8.3: the second example, no chain, and voltages that need no rounding, or are much greater than the peak, or less.
func TestVoltageOf(t *testing.T) {
	one, thousand, thousandth := factor(1, 1, 1, 1), factor(1000, 1, 1000, 1), factor(1, 1000, 1, 1000)
	most := api.WaveFigures{Peak: span(1, 4196)}
	for _, x := range []struct {
		f     api.WaveFigures
		chain []api.Span
		want  api.Range
	}{
		{firstFigures(), []api.Span{factor(2, 1, 5, 2)}, span(198, 253)},
		{firstFigures(), nil, span(99, 101)},
		{firstFigures(), []api.Span{factor(1, 2, 2, 1)}, span(49, 202)},
		{firstFigures(), []api.Span{factor(1, 3, 1, 2), one}, span(33, 51)},
		{firstFigures(), []api.Span{thousandth, thousandth, thousandth}, span(0, 1)},
		{most, []api.Span{thousand, thousand, thousand}, span(1000000000, 4196000000000)},
		{most, []api.Span{factor(1, 1000, 1000, 1)}, span(0, 4196000)},
	} {
		if r, e := wave.VoltageOf(rules(5, one, x.chain...), x.f); r != x.want || e != api.OK {
			t.Error(x, r, e)
		}
	}
	r := numbers(9)
	for range 5000 {
		rule, f := r.rules(100), r.figures()
		scale := scaleBy(rule)
		v, e := wave.VoltageOf(rule, f)
		if isLarge(scale[0]) || isLarge(scale[1]) {
			if v != (api.Range{}) || e != api.ErrLarge {
				t.Fatal(rule, f, v, e)
			}
		} else if v != voltageBy(f.Peak, scale) || e != api.OK {
			t.Fatal(rule, f, v, e)
		}
	}
}

// P8.3: a scale that is too large, which comes before the errors of the figures.
func TestVoltageErrors(t *testing.T) {
	thousand := factor(1000, 1, 1000, 1)
	r := rules(1, thousand, thousand, thousand, thousand, thousand)
	for _, f := range []api.WaveFigures{firstFigures(), {}, {At: -1}} {
		if v, e := wave.VoltageOf(r, f); v != (api.Range{}) || e != api.ErrLarge {
			t.Error(f, v, e)
		}
	}
}

// P8.3: values within limits, outside of them, and neither.
func TestAnswerFor(t *testing.T) {
	const most = 1000000000000000
	for _, x := range []struct {
		value, limits api.Range
		want          int
	}{
		{span(3, 5), span(3, 5), api.AnswerYes},
		{span(3, 5), span(2, 6), api.AnswerYes},
		{span(4, 4), span(3, 5), api.AnswerYes},
		{span(3, 5), span(4, 5), api.AnswerMaybe},
		{span(3, 5), span(3, 4), api.AnswerMaybe},
		{span(3, 5), span(4, 4), api.AnswerMaybe},
		{span(3, 5), span(5, 9), api.AnswerMaybe}, // one number in common
		{span(3, 5), span(1, 3), api.AnswerMaybe},
		{span(3, 5), span(6, 9), api.AnswerNo},
		{span(3, 5), span(1, 2), api.AnswerNo},
		{span(3, 3), span(3, 3), api.AnswerYes},
		{span(3, 3), span(4, 4), api.AnswerNo},
		{span(-5, -3), span(-9, 0), api.AnswerYes},
		{span(-most, most), span(-most, most), api.AnswerYes},
		{span(most, most), span(-most, -most), api.AnswerNo},
		{span(-most, most), span(0, 0), api.AnswerMaybe},
	} {
		if a, e := wave.AnswerFor(x.value, x.limits); a != x.want || e != api.OK {
			t.Error(x, a, e)
		}
	}
	r := numbers(10)
	for range 5000 {
		value, limits := r.between(0, 6), r.between(0, 6)
		inside, outside := 0, 0
		for n := value.Lo; n <= value.Hi; n++ {
			if isIn(span(n, n), limits) {
				inside++
			} else {
				outside++
			}
		}
		want := api.AnswerMaybe
		if outside == 0 {
			want = api.AnswerYes
		} else if inside == 0 {
			want = api.AnswerNo
		}
		if a, e := wave.AnswerFor(value, limits); a != want || e != api.OK {
			t.Fatal(value, limits, a, e)
		}
	}
}

// P8.3: values and limits that are not valid.
func TestAnswerForErrors(t *testing.T) {
	const most = 1000000000000000
	bad := map[api.Range]api.Errno{
		span(2, 1):            api.ErrOrder,
		span(0, -1):           api.ErrOrder,
		span(most, -most):     api.ErrOrder,
		span(most+1, 0):       api.ErrRange, // before the order
		span(0, most+1):       api.ErrRange,
		span(-most-1, 0):      api.ErrRange,
		span(0, -most-1):      api.ErrRange,
		span(least, greatest): api.ErrRange,
		span(greatest, least): api.ErrRange,
		span(least, least):    api.ErrRange,
	}
	for x, want := range bad {
		for _, other := range []api.Range{span(0, 1), span(2, 1), span(most+1, 0)} {
			if a, e := wave.AnswerFor(x, other); a != 0 || e != want {
				t.Error(x, other, a, e)
			}
		}
		if a, e := wave.AnswerFor(span(5, 6), x); a != 0 || e != want {
			t.Error(x, a, e)
		}
	}
}

// widened returns figures whose ranges contain those of others.
func widened(r *numbers, f api.WaveFigures) api.WaveFigures {
	wider := func(x api.Range, lo, hi int) api.Range {
		return span(max(lo, x.Lo-r.below(4)), min(hi, x.Hi+r.below(4)))
	}
	return api.WaveFigures{At: f.At, Peak: wider(f.Peak, 1, 4196), T30: wider(f.T30, 0, 63), T90: wider(f.T90, 0, 63), Half: wider(f.Half, 0, 63)}
}

// P8.12: voltages and times of figures are enclosed by those of figures with wider ranges.
func TestShorter(t *testing.T) {
	r := numbers(11)
	for range 10000 {
		f, step, rule := r.figures(), r.from(1, 50), r.rules(100)
		wider := widened(&r, f)
		front, e1 := wave.FrontOf(f, step)
		widerFront, e2 := wave.FrontOf(wider, step)
		tail, e3 := wave.TailOf(f, step)
		widerTail, e4 := wave.TailOf(wider, step)
		if max(e1, e2, e3, e4) != api.OK || !isIn(front, widerFront) || !isIn(tail, widerTail) {
			t.Fatal(f, wider, step)
		}
		voltage, e5 := wave.VoltageOf(rule, f)
		widerVoltage, e6 := wave.VoltageOf(rule, wider)
		if e5 != e6 || !isIn(voltage, widerVoltage) {
			t.Fatal(f, wider, rule)
		}
	}
}
