package discharge_test

import (
	"math"
	"math/big"
	"slices"
	"strings"
	"testing"

	"buchholz/api"
)

const (
	least    = math.MinInt
	greatest = math.MaxInt
)

// numbers is a sequence of numbers that look as if they were random, and are always the same ones.
type numbers uint64

// below returns a number from 0 to n - 1.
func (r *numbers) below(n int) int {
	*r = *r*6364136223846793005 + 1442695040888963407
	return int(uint64(*r) >> 33 % uint64(n))
}

// from returns a number from lo to hi.
func (r *numbers) from(lo, hi int) int {
	return lo + r.below(hi-lo+1)
}

// oneOf returns one of some numbers.
func (r *numbers) oneOf(l ...int) int {
	return l[r.below(len(l))]
}

// calibration returns a valid calibration whose parts are from 1 to most.
func (r *numbers) calibration(most int) api.Span {
	a := big.NewRat(int64(r.from(1, most)), int64(r.from(1, most)))
	b := big.NewRat(int64(r.from(1, most)), int64(r.from(1, most)))
	if a.Cmp(b) > 0 {
		a, b = b, a
	}
	return api.Span{Lo: fracOf(a), Hi: fracOf(b)}
}

// amplitude returns an amplitude that is at most so great in size, and not 0.
func (r *numbers) amplitude(most int) int {
	return r.from(1, most) * r.oneOf(1, -1)
}

// series returns a valid series of at most so many pulses.
func (r *numbers) series(most int) api.DischargeSeries {
	s := series(r.oneOf(1, 7, 12, 120, 1000000), r.from(1, 8), r.calibration(r.oneOf(5, 1000, 1000000000)))
	at, size := r.from(0, 200), r.oneOf(3, 40, 4096)
	for range r.from(0, most) {
		s.Pulses = append(s.Pulses, pulse(at, r.amplitude(size), r.from(1, 100)))
		at += r.oneOf(1, 2, 10, 60, 120, 1000000) * r.from(1, 3)
	}
	return s
}

// place returns a point with coordinates that are at most so great in size.
func (r *numbers) place(most int) [3]int {
	return [3]int{r.from(-most, most), r.from(-most, most), r.from(-most, most)}
}

// grid returns a valid grid near the origin.
func (r *numbers) grid() api.DischargeGrid {
	return api.DischargeGrid{
		First:  r.place(r.oneOf(0, 5, 60)),
		Step:   r.oneOf(1, 3, 10, 30),
		Counts: [3]int{r.from(1, 3), r.from(1, 3), r.from(1, 4)},
	}
}

// between returns a range of numbers from lo to hi, which is often a single one.
func (r *numbers) between(lo, hi int) api.Range {
	a, b := r.from(lo, hi), r.from(lo, hi)
	if r.below(3) == 0 {
		b = a
	}
	return span(min(a, b), max(a, b))
}

// arrivals returns valid arrivals at sensors that are not far from the origin.
func (r *numbers) arrivals() api.DischargeArrivals {
	a := api.DischargeArrivals{Speed: r.between(1, r.oneOf(1, 3, 9))}
	room, begin, latest := r.oneOf(20, 100, 300), r.from(0, 50), r.oneOf(0, 5, 40, 200)
	for range r.from(2, 5) {
		times := r.between(begin, begin+latest)
		a.Sensors = append(a.Sensors, api.DischargeSensor{Position: r.place(room), Times: times})
	}
	return a
}

// network returns a valid network of so many sections.
func (r *numbers) network(count int) api.DischargeNetwork {
	var n api.DischargeNetwork
	for range count {
		n.Sections = append(n.Sections, api.DischargeSection{R: r.from(0, 5), L: r.from(0, 3), C: r.from(0, 3)})
	}
	return n
}

// list returns at most so many valid deformations of a network of so many sections.
func (r *numbers) list(most, sections int) []api.DischargeDeformation {
	var l []api.DischargeDeformation
	for range r.from(0, most) {
		d := deformation(r.below(sections), r.below(3), r.from(-2, 2))
		if len(l) > 0 && r.below(4) == 0 {
			d = l[r.below(len(l))] // the same one again, or one that takes it back
			d.By *= r.oneOf(1, -1)
		}
		l = append(l, d)
	}
	return l
}

// frequencies returns at most so many valid frequencies.
func (r *numbers) frequencies(most int) []int {
	var l []int
	for range r.from(0, most) {
		l = append(l, r.from(0, 6))
	}
	return l
}

// span returns a range.
func span(lo, hi int) api.Range {
	return api.Range{Lo: lo, Hi: hi}
}

// frac returns a fraction.
func frac(num, den int) api.Frac {
	return api.Frac{Num: num, Den: den}
}

// fracOf returns a fraction with limits.
func fracOf(x *big.Rat) api.Frac {
	return frac(int(x.Num().Int64()), int(x.Denom().Int64()))
}

// ratOf returns a fraction without limits.
func ratOf(f api.Frac) *big.Rat {
	return big.NewRat(int64(f.Num), int64(f.Den))
}

// calibration returns a calibration, by the parts of its ends.
func calibration(lowNum, lowDen, highNum, highDen int) api.Span {
	return api.Span{Lo: frac(lowNum, lowDen), Hi: frac(highNum, highDen)}
}

// pulse returns a pulse.
func pulse(at, amplitude, width int) api.DischargePulse {
	return api.DischargePulse{At: at, Amplitude: amplitude, Width: width}
}

// series returns a series of a sensor.
func series(period, least int, c api.Span, pulses ...api.DischargePulse) api.DischargeSeries {
	return api.DischargeSeries{Sensor: "hfct", Period: period, Least: least, Calibration: c, Pulses: pulses}
}

// plain returns a series with the period 120, and the calibration of the second example.
func plain(pulses ...api.DischargePulse) api.DischargeSeries {
	return series(120, 1, calibration(1, 2, 2, 3), pulses...)
}

// first returns the series of the first example.
func first() api.DischargeSeries {
	return plain(pulse(5, -20, 3), pulse(65, 25, 12), pulse(125, -30, 4))
}

// deformation returns a deformation.
func deformation(section, kind, by int) api.DischargeDeformation {
	return api.DischargeDeformation{Section: section, Kind: kind, By: by}
}

// network returns a network whose sections have such numbers.
func network(sections ...[3]int) api.DischargeNetwork {
	var n api.DischargeNetwork
	for _, s := range sections {
		n.Sections = append(n.Sections, api.DischargeSection{R: s[0], L: s[1], C: s[2]})
	}
	return n
}

// setsBy returns all sets of the numbers from 0 to n - 1, in lexicographic order of those of the same size.
func setsBy(n int) [][]int {
	var sets [][]int
	for mask := range 1 << n {
		set := []int{}
		for i := range n {
			if mask>>i&1 == 1 {
				set = append(set, i)
			}
		}
		sets = append(sets, set)
	}
	slices.SortFunc(sets, func(a, b []int) int {
		if len(a) != len(b) {
			return len(a) - len(b)
		}
		return slices.Compare(a, b)
	})
	return sets
}

// isOK fails the test if there is an error.
func isOK(t *testing.T, e api.Errno) {
	t.Helper()
	if e != api.OK {
		t.Fatal(e)
	}
}

// wrongSeries is a series that is not valid, the index of its wrong pulse, and its error.
type wrongSeries struct {
	s     api.DischargeSeries
	index int
	want  api.Errno
}

// badCalibrations returns calibrations that are not valid, with their errors.
func badCalibrations() map[api.Span]api.Errno {
	return map[api.Span]api.Errno{
		{}:                                                        api.ErrForm,
		calibration(1, 2, 0, 0):                                   api.ErrForm,
		calibration(1, 0, 2, 3):                                   api.ErrForm,
		calibration(1, 2, 1, 0):                                   api.ErrForm,
		calibration(2, 4, 2, 3):                                   api.ErrForm,
		calibration(1, 2, 4, 6):                                   api.ErrForm,
		calibration(1, -2, 2, 3):                                  api.ErrForm,
		calibration(1, 2, -2, -3):                                 api.ErrForm,
		calibration(0, 2, 2, 3):                                   api.ErrForm,
		calibration(-2, 4, 2, 3):                                  api.ErrForm,
		calibration(least, 2, 1, 1):                               api.ErrForm,
		calibration(1, least, 1, 1):                               api.ErrForm,
		calibration(least, least, 1, 1):                           api.ErrForm,
		calibration(1000000001, 1, 2, 2):                          api.ErrForm, // the form of both comes first
		calibration(0, 1, 2, 2):                                   api.ErrForm,
		calibration(2, 1, 2, 2):                                   api.ErrForm,
		calibration(0, 1, 2, 3):                                   api.ErrRange,
		calibration(-1, 2, 2, 3):                                  api.ErrRange,
		calibration(1, 2, 0, 1):                                   api.ErrRange,
		calibration(1, 2, -2, 3):                                  api.ErrRange,
		calibration(1, 2, 1000000001, 1):                          api.ErrRange,
		calibration(1000000001, 1, 1, 1):                          api.ErrRange,
		calibration(1, 1000000001, 2, 3):                          api.ErrRange,
		calibration(1, 2, 2, 1000000001):                          api.ErrRange,
		calibration(greatest, 1, 1, 1):                            api.ErrRange,
		calibration(1, greatest, 1, 1):                            api.ErrRange,
		calibration(least, greatest, 1, 1):                        api.ErrRange,
		calibration(2, 3, 1, 2):                                   api.ErrOrder,
		calibration(2, 1, 1, 1):                                   api.ErrOrder,
		calibration(1, 999999999, 1, 1000000000):                  api.ErrOrder,
		calibration(1000000000, 999999999, 1000000000, 999999999): api.OK,
		calibration(999999999, 999999998, 1000000000, 999999999):  api.ErrOrder,
		calibration(1000000000, 999999999, 999999999, 999999998):  api.OK,
		calibration(1, 1000000000, 1000000000, 1):                 api.OK,
		calibration(1000000000, 1, 1, 1000000000):                 api.ErrOrder,
		calibration(1000000000, 1, 1000000001, 1):                 api.ErrRange,
		calibration(500000000, 999999999, 500000001, 1000000000):  api.OK,
		calibration(500000001, 1000000000, 500000000, 999999999):  api.ErrOrder,
		calibration(333333333, 1000000000, 1, 3):                  api.OK,
		calibration(1, 3, 333333333, 1000000000):                  api.ErrOrder,
		calibration(1000000000, 333333333, 3, 1):                  api.ErrOrder,
	}
}

// badNames returns strings that are not names.
func badNames() []string {
	return []string{
		"", "-", "-a", "1", "1a", " ", "a ", " a", "a b", "a_b", "a.b", "a;b", "a/b", "a\n", "a\x00", "\x00", "é", "aé", "a\xff",
		"abcdefghijklm", strings.Repeat("a", 1000), "@", "[", "`", "{", "a@", "a[", "a`", "a{", "a:", "a/", "a,",
	}
}

// badSeries returns series that are not valid.
func badSeries() []wrongSeries {
	ok := calibration(1, 2, 2, 3)
	none := pulse(-1, 0, 0)
	var many []api.DischargePulse
	for i := range 61 {
		many = append(many, pulse(i, 1, 1))
	}
	wrong := slices.Clone(many)
	wrong[0].Amplitude = 0
	named := func(name string, period int) api.DischargeSeries {
		s := series(period, 1, ok)
		s.Sensor = name
		return s
	}
	l := []wrongSeries{
		{api.DischargeSeries{}, 0, api.ErrName},
		{named("1a", 0), 0, api.ErrName},
		{series(0, 1, ok), 0, api.ErrRange},
		{series(-1, 1, ok), 0, api.ErrRange},
		{series(1000001, 1, ok), 0, api.ErrRange},
		{series(greatest, 1, ok), 0, api.ErrRange},
		{series(least, 1, ok), 0, api.ErrRange},
		{series(0, 1, api.Span{}, none), 0, api.ErrRange}, // before the form of the calibration
		{series(120, 0, ok), 0, api.ErrRange},
		{series(120, -1, ok), 0, api.ErrRange},
		{series(120, 61, ok), 0, api.ErrRange},
		{series(120, greatest, ok), 0, api.ErrRange},
		{series(120, least, ok), 0, api.ErrRange},
		{series(120, 61, api.Span{}, none), 0, api.ErrRange},
		{series(120, 1, ok, many...), 0, api.ErrLarge},
		{series(120, 1, ok, wrong...), 0, api.ErrLarge},
		{series(120, 1, api.Span{}, many...), 0, api.ErrForm},
		{series(120, 1, ok, pulse(-1, 1, 1)), 0, api.ErrRange},
		{series(120, 1, ok, pulse(1000000000001, 1, 1)), 0, api.ErrRange},
		{series(120, 1, ok, pulse(least, 1, 1)), 0, api.ErrRange},
		{series(120, 1, ok, pulse(greatest, 1, 1)), 0, api.ErrRange},
		{series(120, 1, ok, pulse(1, 4097, 1)), 0, api.ErrRange},
		{series(120, 1, ok, pulse(1, -4097, 1)), 0, api.ErrRange},
		{series(120, 1, ok, pulse(1, least, 1)), 0, api.ErrRange},
		{series(120, 1, ok, pulse(1, greatest, 1)), 0, api.ErrRange},
		{series(120, 1, ok, pulse(1, 1, 0)), 0, api.ErrRange},
		{series(120, 1, ok, pulse(1, 1, -1)), 0, api.ErrRange},
		{series(120, 1, ok, pulse(1, 1, 101)), 0, api.ErrRange},
		{series(120, 1, ok, pulse(1, 1, least)), 0, api.ErrRange},
		{series(120, 1, ok, pulse(1, 1, greatest)), 0, api.ErrRange},
		{series(120, 1, ok, pulse(1, 0, 1)), 0, api.ErrZero},
		{series(120, 1, ok, pulse(1, 0, 101)), 0, api.ErrRange}, // before the zero
		{series(120, 1, ok, pulse(-1, 0, 1)), 0, api.ErrRange},
		{series(120, 1, ok, pulse(1, 1, 1), pulse(1, 1, 1)), 1, api.ErrOrder},
		{series(120, 1, ok, pulse(2, 1, 1), pulse(1, 1, 1)), 1, api.ErrOrder},
		{series(120, 1, ok, pulse(2, 1, 1), pulse(1, 0, 1)), 1, api.ErrZero}, // before the order
		{series(120, 1, ok, pulse(2, 1, 1), pulse(1, 1, 101)), 1, api.ErrRange},
		{series(120, 1, ok, pulse(1, 1, 1), pulse(2, 1, 1), pulse(3, 1, 1), pulse(3, 5, 5)), 3, api.ErrOrder},
		{series(120, 1, ok, pulse(1, 1, 1), pulse(5, 1, 1), pulse(4, 1, 1), pulse(3, 0, 500)), 2, api.ErrOrder}, // pulse by pulse
		{series(120, 1, ok, pulse(1, 1, 1), pulse(5, 0, 1), pulse(4, 5000, 1)), 1, api.ErrZero},
	}
	for _, name := range badNames() {
		l = append(l, wrongSeries{named(name, 120), 0, api.ErrName})
	}
	for c, want := range badCalibrations() {
		if want != api.OK {
			l = append(l, wrongSeries{series(120, 1, c), 0, want}, wrongSeries{series(120, 1, c, none), 0, want})
		}
	}
	return l
}
