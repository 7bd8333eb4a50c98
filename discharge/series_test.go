package discharge_test

import (
	"math/big"
	"reflect"
	"slices"
	"testing"

	"buchholz/api"
	"buchholz/discharge"
)

// P9.1: series that are valid, at the limits of everything.
func TestCheckSeries(t *testing.T) {
	var many []api.DischargePulse
	for i := range 60 {
		many = append(many, pulse(i, 1, 1))
	}
	ok := calibration(1, 2, 2, 3)
	l := []api.DischargeSeries{
		first(),
		plain(),
		{Sensor: "hfct", Period: 1, Least: 1, Calibration: ok, Pulses: []api.DischargePulse{}},
		series(1, 1, ok, many...),
		series(1000000, 60, ok, pulse(0, 4096, 100), pulse(1000000000000, -4096, 1)),
	}
	for c, want := range badCalibrations() {
		if want == api.OK {
			l = append(l, series(120, 1, c))
		}
	}
	for _, name := range []string{"a", "Z", "hfct-1", "abcdefghijkl", "A-", "z0123456789-", "zZaA09", "a--"} {
		s := plain()
		s.Sensor = name
		l = append(l, s)
	}
	for _, s := range l {
		if i, e := discharge.CheckSeries(s); i != 0 || e != api.OK {
			t.Error(s, i, e)
		}
	}
}

// P9.1: series that are not valid, with the index of the pulse.
func TestCheckSeriesErrors(t *testing.T) {
	for _, x := range badSeries() {
		if i, e := discharge.CheckSeries(x.s); i != x.index || e != x.want {
			t.Errorf("%.80v: %v %v, not %v %v", x.s, i, e, x.index, x.want)
		}
	}
}

// cluster returns a cluster.
func cluster(bin, polarity, class, count, peak int) api.DischargeCluster {
	return api.DischargeCluster{Bin: bin, Polarity: polarity, Class: class, Count: count, Peak: peak}
}

// P9.1: the first example, and pulses at the ends of bins and classes.
func TestClustersOf(t *testing.T) {
	for _, x := range []struct {
		s    api.DischargeSeries
		want []api.DischargeCluster
	}{
		{first(), []api.DischargeCluster{cluster(0, -1, 0, 2, 30), cluster(6, 1, 1, 1, 25)}},
		{plain(), nil},
		{plain(pulse(0, 1, 1)), []api.DischargeCluster{cluster(0, 1, 0, 1, 1)}},
		{plain(pulse(120, 1, 9), pulse(240, 1, 10)), []api.DischargeCluster{cluster(0, 1, 0, 1, 1), cluster(0, 1, 1, 1, 1)}}, // at multiples of the period
		{plain(pulse(9, 7, 99), pulse(10, 7, 100), pulse(119, 7, 19)), []api.DischargeCluster{cluster(0, 1, 9, 1, 7), cluster(1, 1, 10, 1, 7), cluster(11, 1, 1, 1, 7)}},
		{plain(pulse(0, 5, 20), pulse(1, -5, 20), pulse(2, 5, 5)), []api.DischargeCluster{cluster(0, -1, 2, 1, 5), cluster(0, 1, 0, 1, 5), cluster(0, 1, 2, 1, 5)}}, // polarity before class
		{plain(pulse(20, -9, 1), pulse(140, -4096, 2), pulse(260, -8, 3)), []api.DischargeCluster{cluster(2, -1, 0, 3, 4096)}},
		{series(7, 60, calibration(1, 1, 1, 1), pulse(4, 1, 1), pulse(13, 1, 1)), []api.DischargeCluster{cluster(6, 1, 0, 1, 1), cluster(10, 1, 0, 1, 1)}}, // 48/7 and 72/7
		{series(1, 1, calibration(1, 1, 1, 1), pulse(999, 1, 1), pulse(1000000000000, 2, 1)), []api.DischargeCluster{cluster(0, 1, 0, 2, 2)}},
		{series(1000000, 1, calibration(1, 1, 1, 1), pulse(999999999999, 3, 1), pulse(1000000000000, 2, 1)), []api.DischargeCluster{cluster(0, 1, 0, 1, 2), cluster(11, 1, 0, 1, 3)}},
	} {
		if l, e := discharge.ClustersOf(x.s); e != api.OK || !slices.Equal(l, x.want) {
			t.Error(x.s, l, e)
		}
	}
}

// clustersBy returns the clusters of a series, by trying all bins, polarities and classes.
func clustersBy(s api.DischargeSeries) []api.DischargeCluster {
	var l []api.DischargeCluster
	for bin := range 12 {
		for _, polarity := range []int{-1, 1} {
			for class := range 11 {
				c := cluster(bin, polarity, class, 0, 0)
				for _, p := range s.Pulses {
					phase := p.At - p.At/s.Period*s.Period
					isInBin := bin*s.Period <= 12*phase && 12*phase < (bin+1)*s.Period
					isInClass := 10*class <= p.Width && p.Width < 10*(class+1)
					if size := p.Amplitude * polarity; isInBin && isInClass && size > 0 {
						c.Count++
						c.Peak = max(c.Peak, size)
					}
				}
				if c.Count > 0 {
					l = append(l, c)
				}
			}
		}
	}
	return l
}

// P9.1: all clusters in their order.
func TestClustersByDefinition(t *testing.T) {
	r := numbers(1)
	for range 500 {
		s := r.series(60)
		if l, e := discharge.ClustersOf(s); e != api.OK || !slices.Equal(l, clustersBy(s)) {
			t.Fatal(s, l, e, clustersBy(s))
		}
	}
}

// P9.9: the numbers of clusters add up, and pulses one period later are in the same clusters.
func TestClustersConsequences(t *testing.T) {
	r := numbers(2)
	for range 500 {
		s := r.series(60)
		l, e := discharge.ClustersOf(s)
		isOK(t, e)
		count := 0
		for _, c := range l {
			count += c.Count
		}
		if count != len(s.Pulses) {
			t.Fatal(s, l)
		}
		later := s
		later.Pulses = slices.Clone(s.Pulses)
		for i := range later.Pulses {
			later.Pulses[i].At += s.Period
		}
		if same, e := discharge.ClustersOf(later); e != api.OK || !slices.Equal(same, l) {
			t.Fatal(s, l, same, e)
		}
	}
}

// levelled returns a series with another Least.
func levelled(s api.DischargeSeries, least int) api.DischargeSeries {
	s.Least = least
	return s
}

// P9.2: the second example, and series with too few pulses.
func TestLevelOf(t *testing.T) {
	for _, x := range []struct {
		s     api.DischargeSeries
		level int
		want  api.Errno
	}{
		{levelled(first(), 1), 30, api.OK},
		{levelled(first(), 2), 25, api.OK},
		{levelled(first(), 3), 20, api.OK},
		{levelled(first(), 4), 0, api.ErrNone},
		{levelled(first(), 60), 0, api.ErrNone},
		{plain(), 0, api.ErrNone},
		{plain(pulse(0, -4096, 1)), 4096, api.OK},
		{levelled(plain(pulse(0, -7, 1), pulse(1, 7, 1), pulse(2, 7, 1)), 2), 7, api.OK},
		{levelled(plain(pulse(0, -1, 1), pulse(1, -2, 1), pulse(2, 3, 1)), 3), 1, api.OK},
	} {
		if level, e := discharge.LevelOf(x.s); level != x.level || e != x.want {
			t.Error(x, level, e)
		}
		if _, e := discharge.ChargeOf(x.s); e != x.want {
			t.Error(x, e)
		}
	}
}

// calibrated returns a series with a level and a calibration.
func calibrated(level int, c api.Span) api.DischargeSeries {
	return series(120, 1, c, pulse(3, -level, 3))
}

// P9.2: the second example, and charges that are rounded, or whole.
func TestChargeOf(t *testing.T) {
	for _, x := range []struct {
		s    api.DischargeSeries
		want api.Range
	}{
		{levelled(first(), 2), span(12, 17)},
		{levelled(first(), 3), span(10, 14)},
		{levelled(first(), 1), span(15, 20)},
		{calibrated(1, calibration(1, 2, 1, 2)), span(0, 1)},
		{calibrated(6, calibration(2, 3, 3, 2)), span(4, 9)},
		{calibrated(5, calibration(1, 1000000000, 1, 1000000000)), span(0, 1)},
		{calibrated(4096, calibration(1, 1000000000, 1000000000, 1)), span(0, 4096000000000)},
		{calibrated(4096, calibration(1000000000, 999999999, 1000000000, 999999999)), span(4096, 4097)},
	} {
		if charge, e := discharge.ChargeOf(x.s); charge != x.want || e != api.OK {
			t.Error(x, charge, e)
		}
	}
}

// P9.1 and P9.2: the error of the series comes first.
func TestSeriesErrors(t *testing.T) {
	for _, x := range badSeries() {
		if l, e := discharge.ClustersOf(x.s); len(l) != 0 || e != x.want {
			t.Errorf("%.80v: %v %v", x.s, l, e)
		}
		if level, e := discharge.LevelOf(x.s); level != 0 || e != x.want {
			t.Errorf("%.80v: %v %v", x.s, level, e)
		}
		if charge, e := discharge.ChargeOf(x.s); charge != (api.Range{}) || e != x.want {
			t.Errorf("%.80v: %v %v", x.s, charge, e)
		}
	}
}

// levelBy returns the level of a series, by trying all.
func levelBy(s api.DischargeSeries) int {
	for q := 4096; q > 0; q-- {
		count := 0
		for _, p := range s.Pulses {
			if p.Amplitude >= q || p.Amplitude <= -q {
				count++
			}
		}
		if count >= s.Least {
			return q
		}
	}
	return 0
}

// floorOf returns a number rounded down.
func floorOf(x *big.Rat) int {
	n := new(big.Int)
	return int(n.Div(x.Num(), x.Denom()).Int64()) // for a denominator above 0, Div rounds down
}

// ceilOf returns a number rounded up.
func ceilOf(x *big.Rat) int {
	return -floorOf(new(big.Rat).Neg(x))
}

// times returns a whole multiple of a fraction.
func times(n int, f api.Frac) *big.Rat {
	return new(big.Rat).Mul(big.NewRat(int64(n), 1), ratOf(f))
}

// P9.2: levels and charges, by their definition.
func TestLevelsByDefinition(t *testing.T) {
	r := numbers(3)
	for range 500 {
		s := r.series(20)
		level := levelBy(s)
		want := api.OK
		if level == 0 {
			want = api.ErrNone
		}
		if got, e := discharge.LevelOf(s); got != level || e != want {
			t.Fatal(s, got, e, level)
		}
		charge := span(floorOf(times(level, s.Calibration.Lo)), ceilOf(times(level, s.Calibration.Hi)))
		if got, e := discharge.ChargeOf(s); got != charge || e != want {
			t.Fatal(s, got, e, charge)
		}
	}
}

// P9.2: the third example, and calibrations at the limits.
func TestCalibrationOf(t *testing.T) {
	for _, x := range []struct {
		readings []int
		charge   api.Range
		want     api.Span
	}{
		{[]int{48, 50}, span(100, 100), calibration(2, 1, 25, 12)},
		{[]int{50, 48}, span(100, 100), calibration(2, 1, 25, 12)},
		{[]int{7}, span(3, 14), calibration(3, 7, 2, 1)},
		{[]int{9, 6, 8, 10}, span(5, 9), calibration(1, 2, 3, 2)},
		{[]int{1, 4096}, span(1, 1000000), calibration(1, 4096, 1000000, 1)},
		{slices.Repeat([]int{3}, 60), span(1000000, 1000000), calibration(1000000, 3, 1000000, 3)},
	} {
		if c, e := discharge.CalibrationOf(x.readings, x.charge); c != x.want || e != api.OK {
			t.Error(x, c, e)
		}
	}
}

// P9.2: the errors of a calibration.
func TestCalibrationOfErrors(t *testing.T) {
	many := slices.Repeat([]int{3}, 61)
	many[0] = 0
	for _, x := range []struct {
		readings []int
		charge   api.Range
		want     api.Errno
	}{
		{nil, span(0, 0), api.ErrShape},
		{[]int{}, span(100, 100), api.ErrShape},
		{many, span(0, 0), api.ErrLarge},
		{[]int{0}, span(2, 1), api.ErrRange},
		{[]int{5, -1}, span(2, 3), api.ErrRange},
		{[]int{5, 4097}, span(2, 3), api.ErrRange},
		{[]int{5, 6, least}, span(2, 3), api.ErrRange},
		{[]int{greatest, 6}, span(2, 3), api.ErrRange},
		{[]int{5}, span(0, 3), api.ErrRange},
		{[]int{5}, span(1, 0), api.ErrRange}, // before the order
		{[]int{5}, span(-1, 3), api.ErrRange},
		{[]int{5}, span(1, 1000001), api.ErrRange},
		{[]int{5}, span(1000001, 1000000), api.ErrRange},
		{[]int{5}, span(least, greatest), api.ErrRange},
		{[]int{5}, span(3, 2), api.ErrOrder},
		{[]int{5}, span(1000000, 1), api.ErrOrder},
	} {
		if c, e := discharge.CalibrationOf(x.readings, x.charge); c != (api.Span{}) || e != x.want {
			t.Error(x, c, e)
		}
	}
}

// P9.10: more pulses never give a lower level.
func TestMorePulses(t *testing.T) {
	r := numbers(4)
	for range 500 {
		s := r.series(30)
		fewer := s
		fewer.Pulses = slices.DeleteFunc(slices.Clone(s.Pulses), func(api.DischargePulse) bool { return r.below(4) == 0 })
		more, _ := discharge.LevelOf(s)
		if level, e := discharge.LevelOf(fewer); e != api.OK && e != api.ErrNone || level > more {
			t.Fatal(s, fewer, level, more, e)
		}
	}
}

// P9.10: a reading has a charge that may be the injected one.
func TestReadingsAreCalibrated(t *testing.T) {
	r := numbers(5)
	for range 1000 {
		size := r.oneOf(5, 100, 4096)
		var readings []int
		for range r.from(1, 8) {
			readings = append(readings, r.from(1, size))
		}
		injected := r.between(1, r.oneOf(9, 100, 1000000))
		c, e := discharge.CalibrationOf(readings, injected)
		isOK(t, e)
		for _, reading := range readings {
			charge, e := discharge.ChargeOf(calibrated(reading, c))
			if e != api.OK || charge.Lo > injected.Hi || charge.Hi < injected.Lo {
				t.Fatal(readings, injected, charge, e)
			}
		}
	}
}

// P9.3: the fourth example, and pulses at the ends of the window.
func TestFromOutside(t *testing.T) {
	at := func(l ...int) api.DischargeSeries {
		s := plain()
		for _, n := range l {
			s.Pulses = append(s.Pulses, pulse(n, 1, 1))
		}
		return s
	}
	for _, x := range []struct {
		s, outside api.DischargeSeries
		window     int
		want       []int
	}{
		{first(), at(64), 1, []int{1}},
		{first(), at(64), 0, nil},
		{first(), at(66), 1, []int{1}},
		{first(), at(66), 0, nil},
		{first(), at(65), 0, []int{1}}, // the same time
		{first(), at(5, 125), 0, []int{0, 2}},
		{first(), at(65), 59, []int{1}},
		{first(), at(65), 60, []int{0, 1, 2}},
		{first(), at(0, 125), 5, []int{0, 2}},
		{first(), at(), 1000000, nil},
		{at(), first(), 1000000, nil},
		{at(0, 1000000000000), at(1000000), 1000000, []int{0}},
		{at(0, 1000000000000), at(999999000000), 1000000, []int{1}},
		{at(0, 1000000000000), at(999998999999), 1000000, nil},
	} {
		if l, e := discharge.FromOutside(x.s, x.outside, x.window); e != api.OK || !slices.Equal(l, x.want) {
			t.Error(x, l, e)
		}
		want := x.s
		want.Pulses = nil
		for i, p := range x.s.Pulses {
			if !slices.Contains(x.want, i) {
				want.Pulses = append(want.Pulses, p)
			}
		}
		if s, e := discharge.Cleaned(x.s, x.outside, x.window); e != api.OK || !isSame(s, want) {
			t.Error(x, s, e)
		}
	}
}

// isSame returns whether two series have the same parts.
func isSame(a, b api.DischargeSeries) bool {
	return slices.Equal(a.Pulses, b.Pulses) && a.Sensor == b.Sensor && a.Period == b.Period && a.Least == b.Least && a.Calibration == b.Calibration
}

// P9.3: the errors of both series, and of the window.
func TestFromOutsideErrors(t *testing.T) {
	bad := func(s, outside api.DischargeSeries, window int, want api.Errno) {
		t.Helper()
		if l, e := discharge.FromOutside(s, outside, window); len(l) != 0 || e != want {
			t.Errorf("%.80v %.80v %v: %v %v, not %v", s, outside, window, l, e, want)
		}
		if x, e := discharge.Cleaned(s, outside, window); !reflect.ValueOf(x).IsZero() || e != want {
			t.Errorf("%.80v %.80v %v: %v %v, not %v", s, outside, window, x, e, want)
		}
	}
	for _, x := range badSeries() {
		bad(x.s, first(), 1, x.want)
		bad(first(), x.s, 1, x.want)
		bad(first(), x.s, -1, x.want)
		bad(x.s, api.DischargeSeries{}, -1, x.want)
	}
	for _, window := range []int{-1, 1000001, least, greatest} {
		bad(first(), first(), window, api.ErrRange)
		bad(plain(), plain(), window, api.ErrRange)
	}
}

// P9.11: what is cleaned remains so, and a wider window removes no fewer.
func TestCleanedConsequences(t *testing.T) {
	r := numbers(6)
	removed := 0
	for range 500 {
		s, outside, window := r.series(30), r.series(30), r.oneOf(0, 1, 5, 60, 1000000)
		clean, e := discharge.Cleaned(s, outside, window)
		isOK(t, e)
		if l, e := discharge.FromOutside(clean, outside, window); len(l) != 0 || e != api.OK {
			t.Fatal(s, outside, window, l, e)
		}
		if again, e := discharge.Cleaned(clean, outside, window); e != api.OK || !isSame(again, clean) {
			t.Fatal(s, outside, window, again, e)
		}
		l, e := discharge.FromOutside(s, outside, window)
		isOK(t, e)
		if len(l)+len(clean.Pulses) != len(s.Pulses) {
			t.Fatal(s, outside, window, l, clean)
		}
		removed += min(len(l), len(clean.Pulses))
		wider, e := discharge.FromOutside(s, outside, r.from(window, 1000000))
		isOK(t, e)
		for _, i := range l {
			if !slices.Contains(wider, i) {
				t.Fatal(s, outside, window, l, wider)
			}
		}
	}
	if removed < 100 {
		t.Error(removed)
	}
}
