package wave

import (
	"slices"

	"buchholz/api"
)

// The levels on the front, in tenths of the peak.
const (
	lowLevel  = 3
	highLevel = 9
	tenths    = 10
)

// trueSamples is the ranges of the true samples of a record, and the index and the range of its peak.
type trueSamples struct {
	ranges []api.Range
	at     int
	peak   api.Range
}

// trueSamplesOf returns the true samples of a valid record, by valid rules.
func trueSamplesOf(r api.WaveRules, x api.WaveRecord) trueSamples {
	var s trueSamples
	for i, n := range x.Samples {
		s.ranges = append(s.ranges, around(n, r.Error))
		if n > x.Samples[s.at] {
			s.at = i
		}
	}
	s.peak = s.ranges[s.at]
	return s
}

// reached returns the range of the first index, from a start on, at which true samples are as is asked: it lies from the first one at which they may be so to the first one at which they are so for all errors, if there is one.
func (s trueSamples) reached(start int, may, must func(api.Range) bool) (api.Range, bool) {
	lo := slices.IndexFunc(s.ranges[start:], may)
	hi := slices.IndexFunc(s.ranges[start:], must)
	return api.Range{Lo: start + lo, Hi: start + hi}, hi >= 0
}

// level returns the range of a level on the front, if it has an upper end.
func (s trueSamples) level(level int) (api.Range, bool) {
	return s.reached(0,
		func(x api.Range) bool { return tenths*x.Hi >= level*s.peak.Lo },
		func(x api.Range) bool { return tenths*x.Lo >= level*s.peak.Hi },
	)
}

// half returns the range of the half on the tail, if it has an upper end.
func (s trueSamples) half() (api.Range, bool) {
	return s.reached(s.at+1,
		func(x api.Range) bool { return 2*x.Lo <= s.peak.Hi },
		func(x api.Range) bool { return 2*x.Hi <= s.peak.Lo },
	)
}

// PeakOf returns the peak index, and the peak of a record.
func PeakOf(r api.WaveRules, x api.WaveRecord) (int, api.Range, api.Errno) {
	if e := firstOf(CheckRules(r), CheckRecord(x)); e != api.OK {
		return 0, api.Range{}, e
	}
	s := trueSamplesOf(r, x)
	return s.at, s.peak, api.OK
}

// FiguresOf returns the figures of a record.
func FiguresOf(r api.WaveRules, x api.WaveRecord) (api.WaveFigures, api.Errno) {
	if e := firstOf(CheckRules(r), CheckRecord(x)); e != api.OK {
		return api.WaveFigures{}, e
	}
	s := trueSamplesOf(r, x)
	if s.peak.Lo <= 0 {
		return api.WaveFigures{}, api.ErrOpen
	}
	low, isLow := s.level(lowLevel)
	high, isHigh := s.level(highLevel)
	half, isHalf := s.half()
	if !isLow || !isHigh || !isHalf {
		return api.WaveFigures{}, api.ErrNone
	}
	return api.WaveFigures{At: s.at, Peak: s.peak, T30: low, T90: high, Half: half}, api.OK
}
