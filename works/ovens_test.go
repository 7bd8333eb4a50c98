package works_test

import (
	"testing"

	"buchholz/api"
	"buchholz/works"
)

// oven returns an oven.
func oven(lo, hi, floor int) api.WorksOven {
	return api.WorksOven{Rate: span(lo, hi), Floor: floor}
}

// badOvens returns ovens that are not valid.
func badOvens() map[api.WorksOven]api.Errno {
	bad := map[api.WorksOven]api.Errno{
		oven(2, 1, 0):                   api.ErrOrder,
		oven(1000, 0, 0):                api.ErrOrder,
		oven(2, 1, -1):                  api.ErrOrder,
		oven(2, 1, 1000001):             api.ErrOrder,
		oven(1001, 0, 0):                api.ErrRange,
		oven(0, -1, 0):                  api.ErrRange,
		oven(0, 0, -1):                  api.ErrRange,
		oven(0, 0, 1000001):             api.ErrRange,
		oven(0, 1000, least):            api.ErrRange,
		oven(0, 1000, greatest):         api.ErrRange,
		oven(greatest, least, 0):        api.ErrRange,
		oven(greatest, least, greatest): api.ErrRange,
	}
	for _, n := range []int{-1, 1001, least, greatest} {
		bad[oven(n, 1000, 0)] = api.ErrRange
		bad[oven(0, n, 0)] = api.ErrRange
		bad[oven(n, n, 0)] = api.ErrRange
	}
	return bad
}

// badWaters returns ranges of water that are not valid.
func badWaters() map[api.Range]api.Errno {
	bad := map[api.Range]api.Errno{
		span(1, 0):            api.ErrOrder,
		span(1000000, 999999): api.ErrOrder,
		span(1000001, 0):      api.ErrRange,
		span(0, -1):           api.ErrRange,
	}
	for _, n := range []int{-1, 1000001, least, greatest} {
		bad[span(n, 1000000)] = api.ErrRange
		bad[span(0, n)] = api.ErrRange
		bad[span(n, n)] = api.ErrRange
	}
	return bad
}

// P7.1: ovens, up to the limits.
func TestCheckOven(t *testing.T) {
	for _, o := range []api.WorksOven{{}, oven(0, 0, 0), oven(0, 1000, 0), oven(1000, 1000, 1000000), oven(100, 200, 50), oven(0, 0, 1000000), oven(7, 7, 7)} {
		if e := works.CheckOven(o); e != api.OK {
			t.Error(o, e)
		}
	}
	for o, want := range badOvens() {
		if e := works.CheckOven(o); e != want {
			t.Error(o, e, want)
		}
	}
}

// P7.1: the water after steps.
func TestDryAfter(t *testing.T) {
	for _, x := range []struct {
		o     api.WorksOven
		water api.Range
		steps int
		want  api.Range
	}{
		{oven(100, 200, 50), span(1000, 1050), 0, span(1000, 1050)},
		{oven(100, 200, 50), span(1000, 1050), 1, span(810, 950)},
		{oven(100, 200, 50), span(1000, 1050), 2, span(658, 860)},
		{oven(1000, 1000, 50), span(1000, 1050), 1, span(50, 50)}, // all water above the equilibrium leaves
		{oven(1000, 1000, 0), span(0, 1000000), 1, span(0, 0)},
		{oven(0, 1000, 50), span(1000, 1050), 1, span(50, 1050)},
		{oven(0, 0, 50), span(1000, 1050), 1000, span(1000, 1050)}, // none leaves
		{oven(500, 1000, 50), span(20, 50), 3, span(20, 50)},       // below the equilibrium, and at it
		{oven(500, 1000, 50), span(20, 52), 1, span(20, 51)},
		{oven(500, 500, 50), span(51, 51), 1000, span(51, 51)}, // half of 1 is rounded down
		{oven(100, 100, 50), span(59, 60), 1000, span(59, 59)}, // it stops above the equilibrium
		{oven(999, 999, 0), span(1, 1), 1000, span(1, 1)},
		{oven(999, 999, 0), span(1000000, 1000000), 1, span(1000, 1000)},
		{oven(999, 999, 0), span(1000000, 1000000), 2, span(1, 1)},
		{oven(1, 1, 0), span(999, 1000), 1, span(999, 999)},
		{oven(1000, 1000, 1000000), span(0, 1000000), 1000, span(0, 1000000)},
		{oven(0, 1000, 1000000), span(7, 7), 1, span(7, 7)},
	} {
		got, e := works.DryAfter(x.o, x.water, x.steps)
		if e != api.OK || got != x.want {
			t.Error(x, got, e)
		}
	}
}

// P7.1: the errors of the oven, the water, and the steps, in this order.
func TestDryAfterErrors(t *testing.T) {
	for o, want := range badOvens() {
		if w, e := works.DryAfter(o, span(2, 1), -1); w != (api.Range{}) || e != want {
			t.Error(o, w, e, want)
		}
		if w, e := works.DryAfter(o, span(2, 2), 1); w != (api.Range{}) || e != want {
			t.Error(o, w, e, want)
		}
	}
	for water, want := range badWaters() {
		for _, steps := range []int{1, -1, 1001} {
			if w, e := works.DryAfter(oven(100, 200, 50), water, steps); w != (api.Range{}) || e != want {
				t.Error(water, w, e, want)
			}
		}
	}
	for _, steps := range []int{-1, 1001, least, greatest} {
		if w, e := works.DryAfter(oven(100, 200, 50), span(1, 2), steps); w != (api.Range{}) || e != api.ErrRange {
			t.Error(steps, w, e)
		}
	}
}

// P7.1: the minimum number of steps.
func TestStepsFor(t *testing.T) {
	for _, x := range []struct {
		o            api.WorksOven
		water        api.Range
		target, want int
		e            api.Errno
	}{
		{oven(100, 200, 50), span(1000, 1050), 900, 2, api.OK},
		{oven(100, 200, 50), span(1000, 1050), 950, 1, api.OK},
		{oven(100, 200, 50), span(1000, 1050), 949, 2, api.OK},
		{oven(100, 200, 50), span(1000, 1050), 860, 2, api.OK},
		{oven(100, 200, 50), span(1000, 1050), 1049, 1, api.OK},
		{oven(100, 200, 50), span(1000, 1050), 1050, 0, api.OK},
		{oven(100, 200, 50), span(1000, 1050), 1000000, 0, api.OK},
		{oven(0, 1000, 50), span(51, 51), 50, 0, api.ErrNone}, // the upper end never changes
		{oven(1000, 1000, 50), span(51, 1000000), 50, 1, api.OK},
		{oven(1000, 1000, 50), span(51, 1000000), 49, 0, api.ErrNone},
		{oven(100, 100, 50), span(60, 60), 59, 1, api.OK},
		{oven(100, 100, 50), span(60, 60), 58, 0, api.ErrNone}, // what leaves is rounded down
		{oven(500, 500, 50), span(20, 30), 29, 0, api.ErrNone},
		{oven(500, 500, 50), span(20, 30), 30, 0, api.OK},
		{oven(0, 0, 0), span(0, 0), 0, 0, api.OK},
		{oven(1, 1, 0), span(1999, 1999), 999, 1000, api.OK}, // one leaves in each step
		{oven(1, 1, 0), span(2000, 2000), 999, 1000, api.OK}, // two leave in the first one
		{oven(1, 1, 0), span(2001, 2001), 1000, 1000, api.OK},
		{oven(1, 1, 0), span(2001, 2001), 999, 0, api.ErrNone}, // it would take 1001
	} {
		if n, e := works.StepsFor(x.o, x.water, x.target); n != x.want || e != x.e {
			t.Error(x, n, e)
		}
	}
}

// P7.1: the errors of the oven, the water, and the target, in this order.
func TestStepsForErrors(t *testing.T) {
	for o, want := range badOvens() {
		for _, water := range []api.Range{span(2, 1), span(-1, 2), span(2, 2)} {
			if n, e := works.StepsFor(o, water, -1); n != 0 || e != want {
				t.Error(o, n, e, want)
			}
		}
	}
	for water, want := range badWaters() {
		for _, target := range []int{1, -1, 1000001} {
			if n, e := works.StepsFor(oven(100, 200, 50), water, target); n != 0 || e != want {
				t.Error(water, n, e, want)
			}
		}
	}
	for _, target := range []int{-1, 1000001, least, greatest} {
		if n, e := works.StepsFor(oven(0, 0, 50), span(60, 70), target); n != 0 || e != api.ErrRange {
			t.Error(target, n, e)
		}
	}
}

// randomDrying returns a valid oven, and water.
func randomDrying(r *numbers) (api.WorksOven, api.Range) {
	most := []int{20, 2000, 1000000}[r.below(3)]
	return api.WorksOven{Rate: r.between(0, []int{20, 1000}[r.below(2)]), Floor: r.below(most / 2)}, r.between(0, most)
}

// stepBy returns the water after a step.
func stepBy(o api.WorksOven, water, rate int) int {
	if water > o.Floor {
		leaves := (water - o.Floor) * rate
		return water - (leaves-leaves%1000)/1000
	}
	return water
}

// P7.8: the water lies in DryAfter, whatever the rates are, and never rises, nor falls below the equilibrium.
func TestEveryRate(t *testing.T) {
	r := numbers(1)
	for range 20000 {
		o, water := randomDrying(&r)
		steps := r.below(30)
		last := r.from(water.Lo, water.Hi)
		for i := range steps + 1 {
			w, e := works.DryAfter(o, water, i)
			if e != api.OK || last < w.Lo || last > w.Hi {
				t.Fatal(o, water, i, last, w, e)
			}
			next := stepBy(o, last, r.from(o.Rate.Lo, o.Rate.Hi))
			if next > last || last >= o.Floor && next < o.Floor {
				t.Fatal(o, last, next)
			}
			last = next
		}
	}
}

// P7.1, P7.8: both ends are reached, by the greatest and by the least rates, so the range is not wider than it must be; and its ends neither rise nor fall below the equilibrium.
func TestEndsAreReached(t *testing.T) {
	r := numbers(2)
	for range 5000 {
		o, water := randomDrying(&r)
		want := water
		for i := range 20 {
			w, e := works.DryAfter(o, water, i)
			if e != api.OK || w != want {
				t.Fatal(o, water, i, w, want, e)
			}
			want = span(stepBy(o, want.Lo, o.Rate.Hi), stepBy(o, want.Hi, o.Rate.Lo))
			if want.Lo > w.Lo || want.Hi > w.Hi || w.Lo >= o.Floor && want.Lo < o.Floor {
				t.Fatal(o, w, want)
			}
		}
	}
}

// P7.9: after StepsFor steps the upper end is at most the target, after one less it is not; if there is none, it is not after all steps.
func TestEnoughSteps(t *testing.T) {
	r := numbers(3)
	found, none := 0, 0
	for range 5000 {
		o, water := randomDrying(&r)
		target := r.from(0, water.Hi)
		n, e := works.StepsFor(o, water, target)
		if e == api.ErrNone {
			none++
			n = api.MaxWorksSteps + 1
		} else {
			found++
			if w, f := works.DryAfter(o, water, n); e != api.OK || f != api.OK || w.Hi > target {
				t.Fatal(o, water, target, n, w, e, f)
			}
		}
		if n == 0 {
			continue
		}
		if w, f := works.DryAfter(o, water, n-1); f != api.OK || w.Hi <= target {
			t.Fatal(o, water, target, n, w, f)
		}
	}
	if found < 500 || none < 500 {
		t.Error(found, none)
	}
}
