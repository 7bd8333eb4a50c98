package discharge_test

import (
	"reflect"
	"slices"
	"testing"

	"buchholz/api"
	"buchholz/discharge"
)

// roomy returns the same items with room behind them.
func roomy[T any](l []T) []T {
	return slices.Grow(slices.Clone(l), 8)
}

// isBehind fails the test if there are other than zero values behind the end of a slice.
func isBehind[T any](t *testing.T, l []T) {
	t.Helper()
	if behind := l[len(l):cap(l)]; !reflect.DeepEqual(behind, make([]T, len(behind))) {
		t.Error(l, behind)
	}
}

// disturbed returns a series from outside of the first one.
func disturbed() api.DischargeSeries {
	return plain(pulse(4, 1, 1), pulse(64, 2, 2))
}

// echoes returns arrivals of which the last one contradicts the others.
func echoes() api.DischargeArrivals {
	return heard(span(1, 2), sensor(0, 5, 5, span(100, 110)), sensor(0, 5, 5, span(100, 101)), sensor(0, 5, 5, span(500, 501)))
}

// claim returns responses that the first and the second deformation of the ninth example explain, and the set of the first one.
func claim() api.DischargeClaim {
	return api.DischargeClaim{Measured: measured([]int{2, 3}, gauss(1, 4), gauss(1, 6)), Set: []int{0}}
}

// R3: no function changes pulses, sensors, sections, deformations, or numbers, not even behind their ends.
func TestArgumentsAreKept(t *testing.T) {
	s, outside, a, x, readings := first(), disturbed(), echoes(), claim(), roomy([]int{50, 48, 49})
	n, l, _ := ninth()
	s.Pulses, outside.Pulses, a.Sensors, n.Sections, l = roomy(s.Pulses), roomy(outside.Pulses), roomy(a.Sensors), roomy(n.Sections), roomy(l)
	x.Measured.Frequencies, x.Measured.Responses, x.Set = roomy(x.Measured.Frequencies), roomy(x.Measured.Responses), roomy(x.Set)
	discharge.CheckSeries(s)
	discharge.ClustersOf(s)
	discharge.LevelOf(s)
	discharge.ChargeOf(s)
	discharge.CalibrationOf(readings, span(1, 2))
	discharge.FromOutside(s, outside, 1)
	discharge.Cleaned(s, outside, 1)
	discharge.CheckArrivals(a)
	discharge.AnswerAt(row(), a, [3]int{})
	discharge.RegionOf(row(), a)
	discharge.Contradicting(row(), a)
	discharge.CheckNetwork(n)
	discharge.ResponseAt(n, 3)
	discharge.ResponsesOf(n, x.Measured.Frequencies)
	discharge.DifferencesOf(x.Measured.Responses, x.Measured.Responses, frac(1, 1))
	discharge.Deformed(n, l)
	discharge.ExplanationsOf(n, l, x.Measured)
	discharge.Explains(n, l, x)
	discharge.FormatSeries(s)
	sameNetwork, sameList, _ := ninth()
	got := []any{s, outside, a, n, l, x, readings}
	want := []any{first(), disturbed(), echoes(), sameNetwork, sameList, claim(), []int{50, 48, 49}}
	if !reflect.DeepEqual(got, want) {
		t.Error(got)
	}
	isBehind(t, s.Pulses)
	isBehind(t, outside.Pulses)
	isBehind(t, a.Sensors)
	isBehind(t, n.Sections)
	isBehind(t, l)
	isBehind(t, x.Measured.Frequencies)
	isBehind(t, x.Measured.Responses)
	isBehind(t, x.Set)
	isBehind(t, readings)
}

// R3: a change of a result changes neither arguments nor later results.
func TestResultsAreNew(t *testing.T) {
	s, outside, a, x := first(), disturbed(), echoes(), claim()
	far := plain(pulse(1000000, 1, 1))
	n, l, _ := ninth()
	rivals := func() [][]int { l, _ := discharge.ExplanationsOf(n, l, x.Measured); return l }
	for name, call := range map[string]func() any{
		"ClustersOf":     func() any { l, _ := discharge.ClustersOf(s); return l },
		"FromOutside":    func() any { l, _ := discharge.FromOutside(s, outside, 1); return l },
		"Cleaned":        func() any { s, _ := discharge.Cleaned(s, outside, 1); return s.Pulses },
		"Cleaned of all": func() any { s, _ := discharge.Cleaned(s, far, 1); return s.Pulses },
		"RegionOf":       func() any { l, _ := discharge.RegionOf(row(), sixth()); return l },
		"Contradicting":  func() any { l, _ := discharge.Contradicting(row(), a); return l },
		"ResponsesOf":    func() any { l, _ := discharge.ResponsesOf(n, []int{1, 2}); return l },
		"DifferencesOf": func() any {
			l, _ := discharge.DifferencesOf(x.Measured.Responses, []api.Gauss{{}, {}}, frac(1, 1))
			return l
		},
		"Deformed":            func() any { n, _ := discharge.Deformed(n, l); return n.Sections },
		"Deformed by nothing": func() any { n, _ := discharge.Deformed(n, nil); return n.Sections },
		"ExplanationsOf":      func() any { return rivals() },
		"an explanation":      func() any { return rivals()[1] },
		"ParseSeries":         func() any { s, _ := discharge.ParseSeries("hfct 120 2 1/2 2/3;5 -20 3"); return s.Pulses },
	} {
		got, want := reflect.ValueOf(call()), call()
		if got.Len() == 0 {
			t.Error(name, "is empty")
		}
		for i := range got.Len() {
			got.Index(i).SetZero()
		}
		if again := call(); !reflect.DeepEqual(again, want) {
			t.Error(name, again, want)
		}
	}
	sameNetwork, sameList, _ := ninth()
	got, want := []any{s, outside, a, n, l, x}, []any{first(), disturbed(), echoes(), sameNetwork, sameList, claim()}
	if !reflect.DeepEqual(got, want) {
		t.Error(got)
	}
}

// R3: explanations share no memory with each other, not even behind their ends.
func TestExplanationsAreApart(t *testing.T) {
	n, l, _ := ninth()
	c := l[0]
	sets, e := discharge.ExplanationsOf(n, []api.DischargeDeformation{c, c, c}, measured([]int{2}, gauss(1, 6)))
	isOK(t, e)
	for i := range sets {
		longer := sets[i][:cap(sets[i])]
		for j := range longer {
			longer[j] = 100 + i
		}
	}
	if !reflect.DeepEqual(sets, [][]int{{100, 100}, {101, 101}, {102, 102}}) {
		t.Error(sets)
	}
}

// R5: nil slices and empty ones are the same.
func TestEmptyIsNil(t *testing.T) {
	n, _, _ := ninth()
	for _, l := range [][]int{nil, {}} {
		if c, e := discharge.CalibrationOf(l, span(1, 1)); c != (api.Span{}) || e != api.ErrShape {
			t.Error(c, e)
		}
		if l, e := discharge.ResponsesOf(n, l); len(l) != 0 || e != api.OK {
			t.Error(l, e)
		}
		for _, responses := range [][]api.Gauss{nil, {}} {
			if l, e := discharge.DifferencesOf(responses, []api.Gauss{}, frac(1, 1)); len(l) != 0 || e != api.OK {
				t.Error(l, e)
			}
			for _, list := range [][]api.DischargeDeformation{nil, {}} {
				m := measured(l, responses...)
				if sets, e := discharge.ExplanationsOf(n, list, m); len(sets) != 1 || len(sets[0]) != 0 || e != api.OK {
					t.Error(sets, e)
				}
				if is, e := discharge.Explains(n, list, api.DischargeClaim{Measured: m, Set: l}); !is || e != api.OK {
					t.Error(is, e)
				}
			}
		}
	}
	for _, pulses := range [][]api.DischargePulse{nil, {}} {
		if l, e := discharge.FromOutside(plain(pulses...), plain(pulses...), 0); len(l) != 0 || e != api.OK {
			t.Error(l, e)
		}
		if s, e := discharge.Cleaned(plain(pulses...), first(), 0); len(s.Pulses) != 0 || e != api.OK {
			t.Error(s, e)
		}
		if s := discharge.FormatSeries(plain(pulses...)); s != "hfct 120 1 1/2 2/3" {
			t.Error(s)
		}
	}
}

// R4: what is found depends neither on earlier calls nor on the order of a map.
func TestResultsAreRepeated(t *testing.T) {
	r := numbers(19)
	for range 100 {
		s := r.series(60)
		g, a := r.confused()
		n, list, m, _ := r.puzzle()
		results := func() []any {
			clusters, _ := discharge.ClustersOf(s)
			sensors, _ := discharge.Contradicting(g, a)
			region, _ := discharge.RegionOf(g, a)
			sets, _ := discharge.ExplanationsOf(n, list, m)
			return []any{clusters, sensors, region, sets}
		}
		want := results()
		discharge.ClustersOf(first())
		discharge.Contradicting(row(), echoes())
		for range 5 {
			if got := results(); !reflect.DeepEqual(got, want) {
				t.Fatal(got, want)
			}
		}
	}
}

// wild returns a number that is often at the limit of something.
func (r *numbers) wild() int {
	return r.oneOf(least, least+1, -10001, -4097, -1, 0, 1, 2, 3, 5, 6, 10, 60, 100, 120, 1000, 4096, 10000, 1000000, 100000000, 1000000000, 1000000000000, greatest-1, greatest)
}

// mild returns such a number, or more often a small one.
func (r *numbers) mild() int {
	return r.oneOf(0, 1, 2, 3, 3, 2, 1, 1, r.wild())
}

// wildList returns so many numbers.
func (r *numbers) wildList(count int) []int {
	l := make([]int, count)
	for i := range l {
		l[i] = r.mild()
	}
	return l
}

// wildPlace returns a point.
func (r *numbers) wildPlace() [3]int {
	return [3]int(r.wildList(3))
}

// wildRange returns a range.
func (r *numbers) wildRange() api.Range {
	return span(r.mild(), r.mild())
}

// R2: no function panics, whatever its arguments are about series.
func TestNothingPanicsInSeries(t *testing.T) {
	r := numbers(20)
	wildSeries := func() api.DischargeSeries {
		s := series(r.mild(), r.mild(), calibration(1, 2, 2, 3))
		if r.below(2) == 0 {
			s.Calibration = calibration(r.wild(), r.wild(), r.wild(), r.wild())
		}
		for range r.below(4) {
			s.Pulses = append(s.Pulses, pulse(r.mild(), r.mild(), r.mild()))
		}
		return s
	}
	for range 20000 {
		s, outside := wildSeries(), wildSeries()
		discharge.CheckSeries(s)
		discharge.ClustersOf(s)
		discharge.LevelOf(s)
		discharge.ChargeOf(s)
		discharge.CalibrationOf(r.wildList(r.below(4)), r.wildRange())
		discharge.FromOutside(s, outside, r.mild())
		discharge.Cleaned(s, outside, r.mild())
		discharge.ParseSeries(discharge.FormatSeries(s))
	}
}

// R2: no function panics, whatever its arguments are about sources.
func TestNothingPanicsInSources(t *testing.T) {
	r := numbers(21)
	for range 20000 {
		g := api.DischargeGrid{First: r.wildPlace(), Step: r.mild(), Counts: r.wildPlace()}
		a := heard(r.wildRange())
		for range r.below(7) {
			a.Sensors = append(a.Sensors, api.DischargeSensor{Position: r.wildPlace(), Times: r.wildRange()})
		}
		discharge.CheckGrid(g)
		discharge.CheckArrivals(a)
		discharge.DistanceRange(g, r.wildPlace(), r.wildPlace())
		discharge.AnswerAt(g, a, r.wildPlace())
		discharge.AnswerAt(row(), a, r.wildPlace())
		discharge.RegionOf(g, a)
		discharge.RegionOf(row(), a)
		discharge.Contradicting(g, a)
		discharge.Contradicting(g, sixth())
	}
}

// R2: no function panics, whatever its arguments are about responses.
func TestNothingPanicsInResponses(t *testing.T) {
	r := numbers(22)
	for range 20000 {
		n := network()
		for range r.below(4) {
			n.Sections = append(n.Sections, api.DischargeSection{R: r.mild(), L: r.mild(), C: r.mild()})
		}
		var l []api.DischargeDeformation
		for range r.below(4) {
			l = append(l, deformation(r.mild(), r.mild(), r.mild()))
		}
		m := measured(r.wildList(r.below(3)))
		for range r.below(3) {
			m.Responses = append(m.Responses, gauss(r.mild(), r.mild()))
		}
		valid := r.network(r.from(1, 3))
		discharge.CheckNetwork(n)
		discharge.ResponseAt(n, r.mild())
		discharge.ResponsesOf(n, m.Frequencies)
		discharge.DifferencesOf(m.Responses, m.Responses, frac(r.wild(), r.wild()))
		discharge.Deformed(n, l)
		discharge.Deformed(valid, l)
		discharge.ExplanationsOf(n, l, m)
		discharge.ExplanationsOf(valid, l, m)
		discharge.Explains(valid, l, api.DischargeClaim{Measured: m, Set: r.wildList(r.below(3))})
	}
}
