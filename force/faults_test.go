package force_test

import (
	"slices"
	"testing"

	"buchholz/api"
	"buchholz/force"
)

// P5.3: faults, up to the limits.
func TestCheckFault(t *testing.T) {
	for _, f := range []api.ForceFault{
		fifth(),
		{Voltage: span(0, 0), Impedance: span(1, 1), Factor: frac(1, 1)},
		{Voltage: span(0, 1000), Impedance: span(1, 1000), Factor: frac(100, 1)},
		{Voltage: span(1000, 1000), Impedance: span(1000, 1000), Factor: frac(1, 100)},
		{Voltage: span(7, 7), Impedance: span(3, 3), Factor: frac(99, 100)},
	} {
		if e := force.CheckFault(f); e != api.OK {
			t.Error(f, e)
		}
	}
}

// P5.3: faults that are not valid, for each function of a fault.
func TestFaultErrors(t *testing.T) {
	for _, x := range badFaults() {
		if e := force.CheckFault(x.fault); e != x.want {
			t.Error(x, e)
		}
		if p, e := force.PeakOf(x.fault); p != (api.Span{}) || e != x.want {
			t.Error(x, p, e)
		}
		for _, n := range []int{1, -1} {
			if a, e := force.HoldsAt(x.fault, n, n); a != 0 || e != x.want {
				t.Error(x, n, a, e)
			}
		}
	}
}

// P5.3: the fifth example, the voltage 0, and the greatest and the least peak.
func TestPeakOf(t *testing.T) {
	for _, x := range []struct {
		fault api.ForceFault
		want  api.Span
	}{
		{fifth(), api.Span{Lo: frac(10, 1), Hi: frac(55, 4)}},
		{api.ForceFault{Impedance: span(20, 25), Factor: frac(5, 2)}, api.Span{Lo: frac(0, 1), Hi: frac(0, 1)}},
		{api.ForceFault{Voltage: span(0, 1000), Impedance: span(1, 7), Factor: frac(100, 1)}, api.Span{Lo: frac(0, 1), Hi: frac(100000, 1)}},
		{api.ForceFault{Voltage: span(1, 1), Impedance: span(1000, 1000), Factor: frac(1, 100)}, api.Span{Lo: frac(1, 100000), Hi: frac(1, 100000)}},
	} {
		if p, e := force.PeakOf(x.fault); p != x.want || e != api.OK {
			t.Error(x, p, e)
		}
	}
	r := numbers(10)
	for range 2000 {
		f := anyFault(&r)
		p, e := force.PeakOf(f)
		lo, hi := peakBy(f, f.Voltage.Lo, f.Impedance.Hi), peakBy(f, f.Voltage.Hi, f.Impedance.Lo)
		if e != api.OK || !isRat(p.Lo, lo) || !isRat(p.Hi, hi) {
			t.Fatal(f, p, e, lo, hi)
		}
	}
}

// P5.3: the sixth example, forces that are exactly the limit, and the voltage 0.
func TestHoldsAt(t *testing.T) {
	still := fifth()
	still.Voltage = span(0, 0)
	third := api.ForceFault{Voltage: span(1, 1), Impedance: span(3, 3), Factor: frac(1, 1)}
	most := api.ForceFault{Voltage: span(1000, 1000), Impedance: span(1, 1), Factor: frac(100, 1)}
	small := api.ForceFault{Voltage: span(1, 1), Impedance: span(1000, 1000), Factor: frac(1, 100)}
	for _, x := range []struct {
		fault             api.ForceFault
		unit, limit, want int
	}{
		{fifth(), 16, 3000, api.AnswerMaybe},
		{fifth(), 16, 3025, api.AnswerYes},
		{fifth(), 16, 3024, api.AnswerMaybe},
		{fifth(), 16, 1600, api.AnswerMaybe}, // exactly at the lower end
		{fifth(), 16, 1599, api.AnswerNo},
		{fifth(), 0, 1, api.AnswerYes},
		{still, 10000000, 1, api.AnswerYes},
		{third, 9, 1, api.AnswerYes},
		{third, 10, 1, api.AnswerNo}, // 10/9
		{third, 19, 2, api.AnswerNo},
		{third, 18, 2, api.AnswerYes},
		{most, 10000000, 100000000, api.AnswerNo},
		{most, 1, 100000000, api.AnswerNo},
		{most, 0, 1, api.AnswerYes},
		{small, 10000000, 1, api.AnswerYes},
		{small, 1, 100000000, api.AnswerYes},
	} {
		if a, e := force.HoldsAt(x.fault, x.unit, x.limit); a != x.want || e != api.OK {
			t.Error(x, a, e)
		}
	}
}

// P5.3: units and limits outside their ranges.
func TestHoldsAtErrors(t *testing.T) {
	for _, n := range badUnits() {
		for _, limit := range []int{1, 0} {
			if a, e := force.HoldsAt(fifth(), n, limit); a != 0 || e != api.ErrRange {
				t.Error(n, limit, a, e)
			}
		}
	}
	for _, n := range []int{0, -1, 100000001, least, greatest} {
		if a, e := force.HoldsAt(fifth(), 0, n); a != 0 || e != api.ErrRange {
			t.Error(n, a, e)
		}
	}
}

// P5.3: answers at all sorts of faults, also with limits at and beside the ends of forces.
func TestAnswers(t *testing.T) {
	r := numbers(11)
	seen := [3]int{}
	for range 3000 {
		f, unit := anyFault(&r), r.below([]int{10, 1000, 10000001}[r.below(3)])
		limits := []int{r.from(1, 100), r.from(1, 100000000)}
		lo, hi := forcesBy(f, unit)
		for _, x := range []int{roundedOf(lo), roundedOf(hi)} {
			limits = append(limits, x-1, x, x+1)
		}
		for _, limit := range limits {
			if limit < 1 || limit > 100000000 {
				continue
			}
			want := holdsBy(f, unit, limit)
			seen[want]++
			if a, e := force.HoldsAt(f, unit, limit); a != want || e != api.OK {
				t.Fatal(f, unit, limit, a, e, want)
			}
		}
	}
	if slices.Min(seen[:]) < 500 {
		t.Error(seen)
	}
}

// P5.13: a greater voltage, a smaller impedance, a greater unit, or a smaller limit never improves an answer.
func TestGreaterCurrents(t *testing.T) {
	r := numbers(12)
	worse := 0
	for range 3000 {
		f, unit := randomFault(&r, 30), r.below(1000)
		limit := r.from(1, 1000)
		before, e := force.HoldsAt(f, unit, limit)
		if e != api.OK {
			t.Fatal(f, e)
		}
		more, less := r.from(0, 5), r.from(0, 5)
		other := f
		switch r.below(4) {
		case 0:
			other.Voltage = span(f.Voltage.Lo+min(more, less), f.Voltage.Hi+max(more, less))
		case 1:
			other.Impedance = span(max(f.Impedance.Lo-more, 1), max(f.Impedance.Hi-more, 1))
		case 2:
			unit += more
		case 3:
			limit = max(limit-more, 1)
		}
		after, e := force.HoldsAt(other, unit, limit)
		if e != api.OK || after > before {
			t.Fatal(f, other, unit, limit, before, after, e)
		}
		if after < before {
			worse++
		}
	}
	if worse < 50 {
		t.Error(worse)
	}
}
