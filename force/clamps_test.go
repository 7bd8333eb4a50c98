package force_test

import (
	"slices"
	"testing"

	"buchholz/api"
	"buchholz/force"
)

// clamp returns a clamp with the ends of its force, its stiffness and its shrinking.
func clamp(force, stiffness, shrink api.Range) api.ForceClamp {
	return api.ForceClamp{Force: force, Stiffness: stiffness, Shrink: shrink}
}

// seventh returns the clamp of the seventh example.
func seventh() api.ForceClamp {
	return clamp(span(1000, 1100), span(10, 12), span(5, 20))
}

type badClamp struct {
	clamp api.ForceClamp
	want  api.Errno
}

// badClamps returns clamps that are not valid.
func badClamps() []badClamp {
	f, s, d := span(1000, 1100), span(10, 12), span(5, 20)
	l := []badClamp{
		{clamp(span(1000, 999), s, d), api.ErrOrder},
		{clamp(f, span(10, 9), d), api.ErrOrder},
		{clamp(f, s, span(5, 4)), api.ErrOrder},
		{clamp(span(1, 0), span(-1, 0), span(-1, 0)), api.ErrOrder}, // one after the other
		{clamp(span(1, 0), span(1001, 0), d), api.ErrOrder},
		{clamp(f, span(1, 0), span(-1, 0)), api.ErrOrder},
		{clamp(f, span(1, 0), span(0, 10001)), api.ErrOrder},
		{clamp(span(0, -1), span(1, 0), span(1, 0)), api.ErrRange},
		{clamp(f, span(0, -1), span(1, 0)), api.ErrRange},
		{clamp(span(1000000001, 0), s, d), api.ErrRange},
		{clamp(f, span(1001, 0), d), api.ErrRange},
		{clamp(f, s, span(10001, 0)), api.ErrRange},
	}
	for _, n := range []int{-1, least, greatest} {
		l = append(l,
			badClamp{clamp(span(n, 1100), s, d), api.ErrRange},
			badClamp{clamp(span(1000, n), s, d), api.ErrRange},
			badClamp{clamp(f, span(n, 12), d), api.ErrRange},
			badClamp{clamp(f, span(10, n), d), api.ErrRange},
			badClamp{clamp(f, s, span(n, 20)), api.ErrRange},
			badClamp{clamp(f, s, span(5, n)), api.ErrRange},
		)
	}
	return append(l,
		badClamp{clamp(span(0, 1000000001), s, d), api.ErrRange},
		badClamp{clamp(f, span(0, 1001), d), api.ErrRange},
		badClamp{clamp(f, s, span(0, 10001)), api.ErrRange},
	)
}

// P5.6: the seventh example, up to the limits, and below 0.
func TestClampedOf(t *testing.T) {
	for _, x := range []struct {
		clamp api.ForceClamp
		want  api.Range
	}{
		{seventh(), span(760, 1050)},
		{api.ForceClamp{}, span(0, 0)},
		{clamp(span(7, 9), span(0, 0), span(0, 10000)), span(7, 9)},
		{clamp(span(10, 100), span(10, 12), span(5, 20)), span(-230, 50)},
		{clamp(span(0, 0), span(1000, 1000), span(10000, 10000)), span(-10000000, -10000000)},
		{clamp(span(0, 1000000000), span(0, 1000), span(0, 10000)), span(-10000000, 1000000000)},
		{clamp(span(1000000000, 1000000000), span(0, 1), span(0, 1)), span(999999999, 1000000000)},
	} {
		if r, e := force.ClampedOf(x.clamp); r != x.want || e != api.OK {
			t.Error(x, r, e)
		}
	}
}

// P5.6: clamps that are not valid.
func TestClampErrors(t *testing.T) {
	for _, x := range badClamps() {
		if r, e := force.ClampedOf(x.clamp); r != (api.Range{}) || e != x.want {
			t.Error(x, r, e)
		}
		for _, f := range []api.ForceFault{fifth(), {}} {
			for _, unit := range []int{0, -1} {
				if a, e := force.StaysClamped(x.clamp, f, unit); a != 0 || e != x.want {
					t.Error(x, f, unit, a, e)
				}
			}
		}
	}
}

// P5.6: the errors of the fault, then of the unit.
func TestStaysClampedErrors(t *testing.T) {
	for _, x := range badFaults() {
		for _, unit := range []int{0, -1} {
			if a, e := force.StaysClamped(seventh(), x.fault, unit); a != 0 || e != x.want {
				t.Error(x, unit, a, e)
			}
		}
	}
	for _, unit := range badUnits() {
		if a, e := force.StaysClamped(seventh(), fifth(), unit); a != 0 || e != api.ErrRange {
			t.Error(unit, a, e)
		}
	}
}

// P5.6: what is clamped, against a unit force at the fault of the fifth example (100 to 3025/16 times the unit), and at others.
func TestStaysClamped(t *testing.T) {
	still := fifth()
	still.Voltage = span(0, 0)
	third := api.ForceFault{Voltage: span(1, 1), Impedance: span(3, 3), Factor: frac(1, 1)}
	small := api.ForceFault{Voltage: span(1, 1), Impedance: span(1000, 1000), Factor: frac(1, 100)}
	of := func(lo, hi int) api.ForceClamp { return clamp(span(lo, hi), span(0, 0), span(0, 0)) }
	loose := clamp(span(0, 1), span(2, 2), span(1, 1)) // -2 to -1
	for _, x := range []struct {
		clamp api.ForceClamp
		fault api.ForceFault
		unit  int
		want  int
	}{
		{seventh(), fifth(), 4, api.AnswerYes}, // 760 against 756 and a quarter
		{seventh(), fifth(), 5, api.AnswerMaybe},
		{seventh(), fifth(), 10, api.AnswerMaybe}, // 1050 against 1000
		{seventh(), fifth(), 11, api.AnswerNo},
		{of(3025, 4000), fifth(), 16, api.AnswerYes},
		{of(3024, 4000), fifth(), 16, api.AnswerMaybe},
		{of(0, 1600), fifth(), 16, api.AnswerMaybe},
		{of(0, 1599), fifth(), 16, api.AnswerNo},
		{of(1, 1), third, 9, api.AnswerYes},
		{of(1, 1), third, 10, api.AnswerNo},
		{of(0, 0), third, 1, api.AnswerNo}, // 1/9
		{of(0, 0), third, 0, api.AnswerYes},
		{of(0, 0), still, 10000000, api.AnswerYes},
		{loose, still, 0, api.AnswerNo},
		{loose, third, 0, api.AnswerNo},
		{clamp(span(0, 2), span(1, 1), span(1, 1)), still, 7, api.AnswerMaybe}, // -1 to 1 against 0
		{clamp(span(0, 1), span(1, 1), span(1, 1)), still, 7, api.AnswerMaybe}, // -1 to 0
		{of(1000000000, 1000000000), small, 1, api.AnswerYes},
		{of(0, 1000000000), small, 1, api.AnswerMaybe},
		{of(0, 0), small, 1, api.AnswerNo},
	} {
		if a, e := force.StaysClamped(x.clamp, x.fault, x.unit); a != x.want || e != api.OK {
			t.Error(x, a, e)
		}
	}
}

// staysBy returns whether a clamp stays clamped.
func staysBy(c api.ForceClamp, f api.ForceFault, unit int) int {
	lo, hi := forcesBy(f, unit)
	switch {
	case whole(c.Force.Lo-c.Stiffness.Hi*c.Shrink.Hi).Cmp(hi) >= 0:
		return api.AnswerYes
	case whole(c.Force.Hi-c.Stiffness.Lo*c.Shrink.Lo).Cmp(lo) < 0:
		return api.AnswerNo
	}
	return api.AnswerMaybe
}

// P5.6, P5.13: answers of all sorts of clamps, near the forces, too; a greater unit does not improve them.
func TestClamps(t *testing.T) {
	r := numbers(13)
	seen := [3]int{}
	for range 3000 {
		f, unit := anyFault(&r), r.below([]int{10, 1000, 10000001}[r.below(3)])
		lo, hi := forcesBy(f, unit)
		least := min(max(0, roundedOf(lo)+r.from(-2, 2)), 1000000000)
		most := min(max(least, roundedOf(hi)+r.from(-2, 2)), 1000000000)
		c := clamp(span(least, most), r.between(0, 2), r.between(0, 2))
		if r.below(2) == 0 {
			c = clamp(r.between(0, 1000000000), r.between(0, 1000), r.between(0, 10000))
		}
		want := staysBy(c, f, unit)
		seen[want]++
		if a, e := force.StaysClamped(c, f, unit); a != want || e != api.OK {
			t.Fatal(c, f, unit, a, e, want)
		}
		if a, e := force.StaysClamped(c, f, min(unit+r.below(100), 10000000)); a > want || e != api.OK {
			t.Fatal(c, f, unit, a, e, want)
		}
	}
	if slices.Min(seen[:]) < 200 {
		t.Error(seen)
	}
}

// P5.6: the eighth example, and the limits.
func TestBucklingOf(t *testing.T) {
	for _, x := range []struct {
		modulus, inertia, supports, radius int
		want                               api.Frac
	}{
		{100, 6, 4, 30, frac(1, 3)},
		{1, 1, 2, 1, frac(3, 1)},
		{1, 1, 2, 1000, frac(3, 1000000000)},
		{1000, 1000, 20, 1, frac(399000000, 1)},
		{1000, 1000, 20, 1000, frac(399, 1000)},
		{7, 1, 20, 10, frac(2793, 1000)},
	} {
		c := api.ForceCoil{Modulus: x.modulus, Inertia: x.inertia, Supports: x.supports, Radius: x.radius}
		if f, e := force.BucklingOf(c); f != x.want || e != api.OK {
			t.Error(x, f, e)
		}
	}
	r := numbers(14)
	for range 1000 {
		c := api.ForceCoil{Modulus: r.from(1, 1000), Inertia: r.from(1, 1000), Supports: r.from(2, 20), Radius: r.from(1, 1000)}
		around := c.Supports*c.Supports - 1
		want := over(times(rat(c.Modulus, c.Radius), times(rat(c.Inertia, c.Radius), whole(around))), whole(c.Radius))
		if f, e := force.BucklingOf(c); e != api.OK || !isRat(f, want) {
			t.Fatal(c, f, e, want)
		}
	}
}

// P5.6: coils that are not valid.
func TestBucklingOfErrors(t *testing.T) {
	fine := api.ForceCoil{Modulus: 1, Inertia: 1, Supports: 2, Radius: 1}
	for _, n := range []int{0, -1, 1001, least, greatest} {
		for i := range 4 {
			c := fine
			*[]*int{&c.Modulus, &c.Inertia, &c.Supports, &c.Radius}[i] = n
			if f, e := force.BucklingOf(c); f != (api.Frac{}) || e != api.ErrRange {
				t.Error(c, f, e)
			}
		}
	}
	for _, n := range []int{1, 21, -2} {
		c := fine
		c.Supports = n
		if f, e := force.BucklingOf(c); f != (api.Frac{}) || e != api.ErrRange {
			t.Error(c, f, e)
		}
	}
}
