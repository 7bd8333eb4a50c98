package discharge

import (
	"cmp"
	"slices"

	"buchholz/api"
)

// kind is what the pulses of a cluster have in common.
type kind struct{ bin, polarity, class int }

// polarityOf returns the sign of an amplitude.
func polarityOf(amplitude int) int {
	return cmp.Compare(amplitude, 0)
}

// kindOf returns the kind of a pulse, by the period of the voltage.
func kindOf(p api.DischargePulse, period int) kind {
	return kind{
		bin:      api.DischargeBins * (p.At % period) / period,
		polarity: polarityOf(p.Amplitude),
		class:    p.Width / api.DischargeWidth,
	}
}

// clustersOf returns all clusters of a valid series.
func clustersOf(s api.DischargeSeries) map[kind]api.DischargeCluster {
	clusters := map[kind]api.DischargeCluster{}
	for _, p := range s.Pulses {
		k := kindOf(p, s.Period)
		before := clusters[k]
		clusters[k] = api.DischargeCluster{
			Bin:      k.bin,
			Polarity: k.polarity,
			Class:    k.class,
			Count:    before.Count + 1,
			Peak:     max(before.Peak, sizeOf(p.Amplitude)),
		}
	}
	return clusters
}

// compare returns which one of two clusters is ordered first.
func compare(a, b api.DischargeCluster) int {
	return cmp.Or(
		cmp.Compare(a.Bin, b.Bin),
		cmp.Compare(a.Polarity, b.Polarity),
		cmp.Compare(a.Class, b.Class),
	)
}

// ClustersOf returns all clusters of a series, in their order.
func ClustersOf(s api.DischargeSeries) ([]api.DischargeCluster, api.Errno) {
	if e := errorOf(CheckSeries(s)); e != api.OK {
		return nil, e
	}
	var l []api.DischargeCluster
	for _, cluster := range clustersOf(s) {
		l = append(l, cluster)
	}
	slices.SortFunc(l, compare)
	return l, api.OK
}

// LevelOf returns the level of a series: the size of the smallest one of its Least greatest pulses.
func LevelOf(s api.DischargeSeries) (int, api.Errno) {
	if e := errorOf(CheckSeries(s)); e != api.OK {
		return 0, e
	}
	if len(s.Pulses) < s.Least {
		return 0, api.ErrNone
	}
	var sizes []int
	for _, p := range s.Pulses {
		sizes = append(sizes, sizeOf(p.Amplitude))
	}
	slices.Sort(sizes)
	return sizes[len(sizes)-s.Least], api.OK
}

// ChargeOf returns the apparent charge of a series.
func ChargeOf(s api.DischargeSeries) (api.Range, api.Errno) {
	level, e := LevelOf(s)
	if e != api.OK {
		return api.Range{}, e
	}
	lo, hi := s.Calibration.Lo, s.Calibration.Hi
	return api.Range{
		Lo: level * lo.Num / lo.Den,
		Hi: (level*hi.Num + hi.Den - 1) / hi.Den, // rounded up
	}, api.OK
}

// CalibrationOf returns the calibration from readings of an injected charge.
func CalibrationOf(readings []int, charge api.Range) (api.Span, api.Errno) {
	e := firstOf(
		checkCount(len(readings), 1, api.MaxDischargePulses),
		within(1, api.MaxDischargeAmplitude)(readings...),
		within(1, api.MaxDischargeCharge)(charge.Lo, charge.Hi),
		inOrder(charge),
	)
	if e != api.OK {
		return api.Span{}, e
	}
	return api.Span{
		Lo: reduced(charge.Lo, slices.Max(readings)),
		Hi: reduced(charge.Hi, slices.Min(readings)),
	}, api.OK
}

// checkDisturbed refuses a series, another one from outside, or a window.
func checkDisturbed(s, outside api.DischargeSeries, window int) api.Errno {
	return firstOf(errorOf(CheckSeries(s)), errorOf(CheckSeries(outside)), checkWindow(window))
}

// comesFrom returns the question whether a pulse comes from outside.
func comesFrom(outside api.DischargeSeries, window int) func(api.DischargePulse) bool {
	return func(p api.DischargePulse) bool {
		return slices.ContainsFunc(outside.Pulses, func(other api.DischargePulse) bool {
			return sizeOf(p.At-other.At) <= window
		})
	}
}

// FromOutside returns the indexes of all pulses that come from outside.
func FromOutside(s, outside api.DischargeSeries, window int) ([]int, api.Errno) {
	if e := checkDisturbed(s, outside, window); e != api.OK {
		return nil, e
	}
	comesFromOutside := comesFrom(outside, window)
	var indexes []int
	for i, p := range s.Pulses {
		if comesFromOutside(p) {
			indexes = append(indexes, i)
		}
	}
	return indexes, api.OK
}

// Cleaned returns a series without the pulses that come from outside.
func Cleaned(s, outside api.DischargeSeries, window int) (api.DischargeSeries, api.Errno) {
	if e := checkDisturbed(s, outside, window); e != api.OK {
		return api.DischargeSeries{}, e
	}
	s.Pulses = slices.DeleteFunc(slices.Clone(s.Pulses), comesFrom(outside, window))
	return s, api.OK
}
