package field_test

import (
	"math/big"
	"testing"

	"buchholz/api"
	"buchholz/field"
)

// bent is the curve of example 6, high the upper one of example 7.
func bent() api.FieldCurve { return curve(10, 5, 20, 25) }
func high() api.FieldCurve { return curve(10, 10, 20, 40) }

// P3.7: curves at their limits, and those that are not valid.
func TestCheckCurve(t *testing.T) {
	for _, c := range []api.FieldCurve{
		bent(),
		curve(1, 1),
		curve(1000, 1000),
		curve(1, 999, 2, 1000),
		curve(1, 1, 2, 2, 3, 3, 4, 4, 5, 5, 6, 6, 7, 7, 8, 8),
	} {
		if i, e := field.CheckCurve(c); i != 0 || e != api.OK {
			t.Error(c, i, e)
		}
	}
	for _, x := range badCurves() {
		if i, e := field.CheckCurve(x.curve); i != x.index || e != x.want {
			t.Error(x, i, e)
		}
	}
}

// P3.7: the drop of the examples, at points, between and beyond them, and below 0.
func TestDropAt(t *testing.T) {
	for flux, want := range map[int]api.Frac{
		0: {Num: 0, Den: 1}, 1: {Num: 1, Den: 2}, 9: {Num: 9, Den: 2}, 10: {Num: 5, Den: 1}, 11: {Num: 7, Den: 1},
		15: {Num: 15, Den: 1}, 20: {Num: 25, Den: 1}, 21: {Num: 27, Den: 1}, 30: {Num: 45, Den: 1}, 100000: {Num: 199985, Den: 1},
		-1: {Num: -1, Den: 2}, -10: {Num: -5, Den: 1}, -15: {Num: -15, Den: 1}, -30: {Num: -45, Den: 1}, -100000: {Num: -199985, Den: 1},
	} {
		if x, e := field.DropAt(bent(), flux); e != api.OK || x != want {
			t.Error(flux, x, e)
		}
	}
	for flux, want := range map[int]api.Frac{3: {Num: 2, Den: 1}, 4: {Num: 8, Den: 3}, -100000: {Num: -200000, Den: 3}} {
		if x, e := field.DropAt(curve(3, 2), flux); e != api.OK || x != want {
			t.Error(flux, x, e)
		}
	}
	if x, e := field.DropAt(curve(1, 1000), 100000); e != api.OK || x != (api.Frac{Num: 100000000, Den: 1}) {
		t.Error(x, e)
	}
	for _, flux := range []int{100001, -100001, least, greatest} {
		if x, e := field.DropAt(bent(), flux); e != api.ErrRange || x != (api.Frac{}) {
			t.Error(flux, x, e)
		}
		for _, bad := range badCurves() {
			if x, e := field.DropAt(bad.curve, flux); e != bad.want || x != (api.Frac{}) {
				t.Error(bad, x, e)
			}
		}
	}
}

// P3.7: the flux of the examples.
func TestFluxFor(t *testing.T) {
	for _, x := range []struct {
		c          api.FieldCurve
		gap, turns int
		want       api.Frac
	}{
		{bent(), 0, 15, api.Frac{Num: 15, Den: 1}},
		{bent(), 1, 15, api.Frac{Num: 10, Den: 1}},
		{bent(), 1, 16, api.Frac{Num: 31, Den: 3}},
		{bent(), 1, 14, api.Frac{Num: 28, Den: 3}},
		{bent(), 1, 45, api.Frac{Num: 20, Den: 1}},
		{bent(), 1, 75, api.Frac{Num: 30, Den: 1}},
		{bent(), 0, 0, api.Frac{Num: 0, Den: 1}},
		{bent(), 20, 0, api.Frac{Num: 0, Den: 1}},
		{bent(), 0, -15, api.Frac{Num: -15, Den: 1}},
		{bent(), 1, -75, api.Frac{Num: -30, Den: 1}},
		{curve(3, 2), 0, 4, api.Frac{Num: 6, Den: 1}},
		{curve(3, 2), 20, 1, api.Frac{Num: 3, Den: 62}},
		{curve(1000, 1), 0, 100000, api.Frac{Num: 100000000, Den: 1}},
		{curve(1000, 1), 0, -100000, api.Frac{Num: -100000000, Den: 1}},
	} {
		if f, e := field.FluxFor(x.c, x.gap, x.turns); e != api.OK || f != x.want {
			t.Error(x, f, e)
		}
	}
	for _, x := range [][2]int{{-1, 0}, {21, 0}, {least, 0}, {0, 100001}, {0, -100001}, {0, least}, {20, greatest}} {
		if f, e := field.FluxFor(bent(), x[0], x[1]); e != api.ErrRange || f != (api.Frac{}) {
			t.Error(x, f, e)
		}
		for _, bad := range badCurves() {
			if f, e := field.FluxFor(bad.curve, x[0], x[1]); e != bad.want || f != (api.Frac{}) {
				t.Error(bad, f, e)
			}
		}
	}
}

// P3.7, P3.14: drops and fluxes of all kinds of curves: the flux solves its equation, is opposite for opposite ampere turns, does not decrease with them, and does not increase in size with the gap.
func TestFluxSolves(t *testing.T) {
	r := numbers(41)
	for range 3000 {
		c := randomCurve(&r)
		most := []int{60, 2000, 100000}[r.below(3)]
		gap, turns, flux := r.from(0, 20), r.from(-most, most), r.from(-most, most)
		drop, e := field.DropAt(c, flux)
		checkFrac(t, drop, e, dropBySteps(c, whole(flux)), c, flux)
		f, e := field.FluxFor(c, gap, turns)
		if e != api.OK {
			t.Fatal(c, gap, turns, e)
		}
		if sum := plus(dropBySteps(c, ratOf(f)), times(whole(gap), ratOf(f))); sum.Cmp(whole(turns)) != 0 {
			t.Fatal(c, gap, turns, f, sum)
		}
		opposite, e := field.FluxFor(c, gap, -turns)
		if e != api.OK || opposite != (api.Frac{Num: -f.Num, Den: f.Den}) {
			t.Fatal(c, gap, turns, f, opposite, e)
		}
		if more, e := field.FluxFor(c, gap, min(turns+r.below(9), 100000)); e != api.OK || ratOf(more).Cmp(ratOf(f)) < 0 {
			t.Fatal(c, gap, turns, f, more, e)
		}
		wider, e := field.FluxFor(c, min(gap+r.below(3), 20), turns)
		if e != api.OK || square(ratOf(wider)).Cmp(square(ratOf(f))) > 0 {
			t.Fatal(c, gap, turns, f, wider, e)
		}
	}
}

// P3.7: the span of the examples, of equal curves, and errors in their order.
func TestFluxSpan(t *testing.T) {
	drive := func(lo, hi, turns int) api.FieldDrive {
		return api.FieldDrive{Gap: api.Range{Lo: lo, Hi: hi}, Turns: turns}
	}
	for _, x := range []struct {
		low, high api.FieldCurve
		drive     api.FieldDrive
		want      api.Span
		e         api.Errno
	}{
		{bent(), high(), drive(0, 1, 15), api.Span{Lo: api.Frac{Num: 15, Den: 2}, Hi: api.Frac{Num: 15, Den: 1}}, api.OK},
		{bent(), bent(), drive(1, 1, 75), api.Span{Lo: api.Frac{Num: 30, Den: 1}, Hi: api.Frac{Num: 30, Den: 1}}, api.OK},
		{bent(), high(), drive(0, 20, 0), api.Span{Lo: api.Frac{Num: 0, Den: 1}, Hi: api.Frac{Num: 0, Den: 1}}, api.OK},
		{curve(1000, 1), curve(1, 1000), drive(0, 20, 100000), api.Span{Lo: api.Frac{Num: 5000, Den: 51}, Hi: api.Frac{Num: 100000000, Den: 1}}, api.OK},
		{high(), bent(), drive(-1, 0, 15), api.Span{}, api.ErrRange},
		{high(), bent(), drive(0, 21, 15), api.Span{}, api.ErrRange},
		{high(), bent(), drive(0, -1, -1), api.Span{}, api.ErrRange},
		{high(), bent(), drive(21, 0, -1), api.Span{}, api.ErrRange},
		{high(), bent(), drive(least, greatest, 0), api.Span{}, api.ErrRange},
		{high(), bent(), drive(1, 0, -1), api.Span{}, api.ErrOrder},
		{high(), bent(), drive(20, 19, 100001), api.Span{}, api.ErrOrder},
		{high(), bent(), drive(0, 1, -1), api.Span{}, api.ErrRange},
		{high(), bent(), drive(0, 1, 100001), api.Span{}, api.ErrRange},
		{high(), bent(), drive(0, 1, least), api.Span{}, api.ErrRange},
		{high(), bent(), drive(0, 1, 15), api.Span{}, api.ErrClash},
	} {
		if s, e := field.FluxSpan(x.low, x.high, x.drive); e != x.e || s != x.want {
			t.Error(x, s, e)
		}
	}
	for _, x := range badCurves() {
		for _, c := range [][2]api.FieldCurve{{x.curve, high()}, {bent(), x.curve}, {x.curve, {}}} {
			if s, e := field.FluxSpan(c[0], c[1], drive(-1, -2, -1)); e != x.want || s != (api.Span{}) {
				t.Error(x, s, e)
			}
		}
	}
}

// P3.7: where a curve is not below another one: at a point of the one or of the other, or far beyond all points.
func TestClashes(t *testing.T) {
	for _, x := range []struct {
		low, high api.FieldCurve
		want      api.Errno
	}{
		{curve(10, 10), curve(20, 20), api.OK},
		{curve(20, 20), curve(10, 10), api.OK},
		{curve(1000, 999), curve(999, 999), api.OK},
		{curve(999, 999), curve(1000, 999), api.ErrClash},
		{curve(10, 10), curve(5, 5, 10, 11), api.OK},
		{curve(10, 10), curve(5, 4, 10, 11), api.ErrClash},
		{curve(10, 10), curve(5, 6, 10, 10), api.ErrClash},
		{curve(10, 10), curve(5, 6, 10, 11), api.OK},
		{curve(5, 5, 10, 11), curve(10, 11), api.ErrClash},
		{curve(5, 5, 10, 10, 20, 21), curve(10, 11), api.OK},
		{curve(5, 6, 10, 11), curve(10, 11), api.ErrClash},
		{curve(5, 4, 10, 11), curve(10, 11), api.ErrClash},
		{curve(5, 1, 1000, 2), curve(1, 1, 999, 2), api.ErrClash},
		{curve(4, 1, 1000, 2), curve(2, 1, 998, 2), api.OK},
		{curve(5, 1, 999, 2), curve(1, 1, 1000, 2), api.ErrClash},
		{curve(1, 1, 2, 3), curve(1, 2, 2, 4), api.OK},
		{curve(1, 1, 3, 5), curve(1, 2, 2, 4), api.OK},
		{curve(1, 1, 3, 6), curve(1, 2, 2, 4), api.ErrClash},
	} {
		_, e := field.FluxSpan(x.low, x.high, api.FieldDrive{})
		if e != x.want {
			t.Error(x, e)
		}
	}
}

// isBelowBySteps returns whether a curve is below another one, at all whole fluxes up to one so far beyond all points that the steeper one is above.
func isBelowBySteps(low, high api.FieldCurve) bool {
	for flux := range 30 {
		if dropBySteps(low, whole(flux)).Cmp(dropBySteps(high, whole(flux))) > 0 {
			return false
		}
	}
	far := whole(1000000)
	return dropBySteps(low, far).Cmp(dropBySteps(high, far)) <= 0
}

// smallCurve returns a curve of at most three points whose fluxes are below 30.
func smallCurve(r *numbers) api.FieldCurve {
	var c api.FieldCurve
	var p api.FieldPoint
	for range r.from(1, 3) {
		p.Flux += r.from(1, 4)
		p.Turns += r.from(1, 4)
		c.Points = append(c.Points, p)
	}
	return c
}

// P3.7, P3.14: which curves clash, and that the flux of each curve between, and of each gap in the range, lies in the span.
func TestFluxInSpan(t *testing.T) {
	r := numbers(42)
	var found [2]int
	for range 20000 {
		low, middle, top := smallCurve(&r), smallCurve(&r), smallCurve(&r)
		x := api.FieldDrive{Gap: api.Range{Lo: r.below(3)}, Turns: r.below(40)}
		x.Gap.Hi = x.Gap.Lo + r.below(3)
		s, e := field.FluxSpan(low, top, x)
		if !isBelowBySteps(low, top) {
			if e != api.ErrClash || s != (api.Span{}) {
				t.Fatal(low, top, x, s, e)
			}
			continue
		}
		found[0]++
		if e != api.OK {
			t.Fatal(low, top, x, e)
		}
		if !isBelowBySteps(low, middle) || !isBelowBySteps(middle, top) {
			continue
		}
		found[1]++
		f, e := field.FluxFor(middle, r.from(x.Gap.Lo, x.Gap.Hi), x.Turns)
		if e != api.OK || ratOf(f).Cmp(ratOf(s.Lo)) < 0 || ratOf(f).Cmp(ratOf(s.Hi)) > 0 {
			t.Fatal(low, middle, top, x, f, s, e)
		}
		ends := []*big.Rat{fluxOf(top, x.Gap.Hi, x.Turns), fluxOf(low, x.Gap.Lo, x.Turns)}
		if ratOf(s.Lo).Cmp(ends[0]) != 0 || ratOf(s.Hi).Cmp(ends[1]) != 0 {
			t.Fatal(low, top, x, s, ends)
		}
	}
	if found[0] < 1000 || found[1] < 300 {
		t.Error(found)
	}
}

// fluxOf returns the flux that FluxFor returns.
func fluxOf(c api.FieldCurve, gap, turns int) *big.Rat {
	f, _ := field.FluxFor(c, gap, turns)
	return ratOf(f)
}
