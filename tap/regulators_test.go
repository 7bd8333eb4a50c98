package tap_test

import (
	"fmt"
	"slices"
	"testing"

	"buchholz/api"
	"buchholz/tap"
)

// sixth returns the regulator of the sixth example.
func sixth() api.TapRegulator {
	return api.TapRegulator{Target: 100, Band: 3, Delay: 2, Step: 5, Taps: span(-4, 4)}
}

// banded returns the regulator of the sixth example with another band.
func banded(band int) api.TapRegulator {
	r := sixth()
	r.Band = band
	return r
}

// patient returns the regulator of the sixth example with another delay.
func patient(delay int) api.TapRegulator {
	r := sixth()
	r.Delay = delay
	return r
}

// moment returns a moment.
func moment(tap, wait int) api.TapMoment {
	return api.TapMoment{Tap: tap, Wait: wait}
}

// randomRegulator returns a valid regulator with taps and a delay of at most so much.
func randomRegulator(r *numbers, taps, delay int) api.TapRegulator {
	step := r.from(1, []int{3, 20, 300, 10000}[r.below(4)])
	return api.TapRegulator{
		Target: r.from(-100, 100),
		Band:   r.below(step*r.from(1, 4)/4 + 1),
		Delay:  r.from(1, delay),
		Step:   step,
		Taps:   r.between(-taps, taps),
	}
}

// randomMoment returns a moment of a regulator.
func randomMoment(r *numbers, x api.TapRegulator) api.TapMoment {
	return moment(r.from(x.Taps.Lo, x.Taps.Hi), r.from(1-x.Delay, x.Delay-1))
}

// nearby returns a disturbance for which the voltage of some tap is near the target.
func nearby(r *numbers, x api.TapRegulator) int {
	d := x.Target - x.Step*r.from(x.Taps.Lo-1, x.Taps.Hi+1) + r.from(-x.Step, x.Step)
	return min(max(d, -10000), 10000)
}

type badRegulator struct {
	name   string
	change func(*api.TapRegulator)
	want   api.Errno
}

// badRegulators returns how the regulator of the sixth example is made one that is not valid.
func badRegulators() []badRegulator {
	l := []badRegulator{
		{"nothing", func(r *api.TapRegulator) { *r = api.TapRegulator{} }, api.ErrRange},
		{"taps in the wrong order", func(r *api.TapRegulator) { r.Taps = span(1, 0) }, api.ErrOrder},
		{"all taps in the wrong order", func(r *api.TapRegulator) { r.Taps = span(40, -40) }, api.ErrOrder},
		{"taps that are too great, in the wrong order", func(r *api.TapRegulator) { r.Taps = span(41, 0) }, api.ErrRange},
		{"no delay, taps in the wrong order", func(r *api.TapRegulator) { r.Delay, r.Taps = 0, span(1, 0) }, api.ErrRange},
		{"no step, taps in the wrong order", func(r *api.TapRegulator) { r.Step, r.Taps = 0, span(1, 0) }, api.ErrRange},
	}
	for _, n := range []int{least, greatest, 10001, -10001} {
		l = append(l,
			badRegulator{fmt.Sprint("the target ", n), func(r *api.TapRegulator) { r.Target, r.Taps = n, span(1, 0) }, api.ErrRange},
			badRegulator{fmt.Sprint("the band ", n), func(r *api.TapRegulator) { r.Band, r.Taps = n, span(1, 0) }, api.ErrRange},
			badRegulator{fmt.Sprint("the delay ", n), func(r *api.TapRegulator) { r.Delay = n }, api.ErrRange},
			badRegulator{fmt.Sprint("the step ", n), func(r *api.TapRegulator) { r.Step = n }, api.ErrRange},
			badRegulator{fmt.Sprint("the lowest tap ", n), func(r *api.TapRegulator) { r.Taps.Lo = n }, api.ErrRange},
			badRegulator{fmt.Sprint("the highest tap ", n), func(r *api.TapRegulator) { r.Taps.Hi = n }, api.ErrRange},
		)
	}
	return append(l,
		badRegulator{"the band -1", func(r *api.TapRegulator) { r.Band = -1 }, api.ErrRange},
		badRegulator{"the delay 0", func(r *api.TapRegulator) { r.Delay = 0 }, api.ErrRange},
		badRegulator{"the delay -1", func(r *api.TapRegulator) { r.Delay = -1 }, api.ErrRange},
		badRegulator{"the delay 21", func(r *api.TapRegulator) { r.Delay = 21 }, api.ErrRange},
		badRegulator{"the step 0", func(r *api.TapRegulator) { r.Step = 0 }, api.ErrRange},
		badRegulator{"the step -1", func(r *api.TapRegulator) { r.Step = -1 }, api.ErrRange},
		badRegulator{"the lowest tap -41", func(r *api.TapRegulator) { r.Taps.Lo = -41 }, api.ErrRange},
		badRegulator{"the highest tap 41", func(r *api.TapRegulator) { r.Taps.Hi = 41 }, api.ErrRange},
	)
}

// badMoments returns what is not a moment of the sixth example.
func badMoments() []api.TapMoment {
	return []api.TapMoment{
		moment(-5, 0), moment(5, 0), moment(0, 2), moment(0, -2),
		moment(least, 0), moment(greatest, 0), moment(0, least), moment(0, greatest),
	}
}

// badDisturbances returns numbers that are not disturbances.
func badDisturbances() []int {
	return []int{10001, -10001, least, greatest}
}

// P6.7: regulators, up to the limits.
func TestCheckRegulator(t *testing.T) {
	for _, r := range []api.TapRegulator{
		sixth(),
		{Delay: 1, Step: 1},
		{Target: 10000, Band: 10000, Delay: 20, Step: 10000, Taps: span(-40, 40)},
		{Target: -10000, Delay: 20, Step: 10000, Taps: span(40, 40)},
		{Delay: 1, Step: 1, Taps: span(-40, -40)},
	} {
		if e := tap.CheckRegulator(r); e != api.OK {
			t.Error(r, e)
		}
	}
	for _, x := range badRegulators() {
		r := sixth()
		x.change(&r)
		if e := tap.CheckRegulator(r); e != x.want {
			t.Error(x.name, e)
		}
	}
}

// P6.7: a tick with a voltage that is too low, within the band, or too high.
func TestRegulated(t *testing.T) {
	for _, x := range []struct {
		regulator   api.TapRegulator
		moment      api.TapMoment
		disturbance int
		want        api.TapMoment
	}{
		{sixth(), moment(0, 0), 90, moment(0, -1)},
		{sixth(), moment(0, -1), 90, moment(1, 0)},
		{sixth(), moment(0, 1), 90, moment(0, -1)},
		{sixth(), moment(0, 1), 110, moment(-1, 0)},
		{sixth(), moment(0, 0), 110, moment(0, 1)},
		{sixth(), moment(0, -1), 110, moment(0, 1)},
		{sixth(), moment(0, -1), 97, moment(0, 0)},
		{sixth(), moment(0, 1), 103, moment(0, 0)},
		{sixth(), moment(0, 1), 100, moment(0, 0)},
		{sixth(), moment(0, 0), 96, moment(0, -1)},
		{sixth(), moment(0, 0), 104, moment(0, 1)},
		{sixth(), moment(2, 1), 87, moment(2, 0)},
		{sixth(), moment(2, 1), 86, moment(2, -1)},
		{sixth(), moment(-3, -1), 118, moment(-3, 0)},
		{sixth(), moment(-3, -1), 119, moment(-3, 1)},
		{sixth(), moment(4, -1), 60, moment(4, 0)}, // the highest tap
		{sixth(), moment(4, 0), 60, moment(4, -1)},
		{sixth(), moment(-4, 1), 160, moment(-4, 0)}, // the lowest tap
		{sixth(), moment(4, 1), 160, moment(3, 0)},
		{sixth(), moment(-4, -1), 60, moment(-3, 0)},
		{patient(1), moment(0, 0), 90, moment(1, 0)},
		{patient(1), moment(0, 0), 110, moment(-1, 0)},
		{patient(20), moment(0, -18), 90, moment(0, -19)},
		{patient(20), moment(0, -19), 90, moment(1, 0)},
		{patient(20), moment(0, 19), 90, moment(0, -1)},
		{banded(0), moment(0, 1), 100, moment(0, 0)},
		{banded(0), moment(0, 0), 101, moment(0, 1)},
		{banded(0), moment(0, 0), 99, moment(0, -1)},
	} {
		if m, e := tap.Regulated(x.regulator, x.moment, x.disturbance); m != x.want || e != api.OK {
			t.Error(x, m, e)
		}
	}
}

// P6.7: the errors of the regulator, the moment and the disturbance.
func TestRegulatedErrors(t *testing.T) {
	check := func(r api.TapRegulator, m api.TapMoment, disturbance int, want api.Errno) {
		t.Helper()
		if x, e := tap.Regulated(r, m, disturbance); x != (api.TapMoment{}) || e != want {
			t.Error(r, m, disturbance, x, e)
		}
		if x, e := tap.SettlingOf(r, m, disturbance); x != (api.TapSettling{}) || e != want {
			t.Error(r, m, disturbance, x, e)
		}
	}
	for _, x := range badRegulators() {
		r := sixth()
		x.change(&r)
		check(r, moment(0, 0), 90, x.want)
		check(r, moment(100, 100), least, x.want)
	}
	for _, m := range badMoments() {
		check(sixth(), m, 90, api.ErrRange)
		check(sixth(), m, least, api.ErrRange)
	}
	for _, d := range badDisturbances() {
		check(sixth(), moment(0, 0), d, api.ErrRange)
		check(banded(1), moment(0, 0), d, api.ErrRange)
	}
}

// P6.7: the moments after each tick.
func TestCourseOf(t *testing.T) {
	for _, x := range []struct {
		regulator    api.TapRegulator
		moment       api.TapMoment
		disturbances []int
		want         []api.TapMoment
	}{
		{sixth(), moment(0, 0), nil, nil},
		{sixth(), moment(0, 0), []int{}, nil},
		{sixth(), moment(0, 0), []int{90, 90, 90, 90, 90}, []api.TapMoment{moment(0, -1), moment(1, 0), moment(1, -1), moment(2, 0), moment(2, 0)}},
		{sixth(), moment(0, 0), []int{90, 110, 90, 100, 90, 90, 110}, []api.TapMoment{moment(0, -1), moment(0, 1), moment(0, -1), moment(0, 0), moment(0, -1), moment(1, 0), moment(1, 1)}},
		{patient(1), moment(3, 0), []int{60, 60, 200, 200, 100}, []api.TapMoment{moment(4, 0), moment(4, 0), moment(3, 0), moment(2, 0), moment(1, 0)}},
	} {
		if l, e := tap.CourseOf(x.regulator, x.moment, x.disturbances); e != api.OK || !slices.Equal(l, x.want) {
			t.Error(x, l, e)
		}
	}
	long := slices.Repeat([]int{60}, 200)
	if l, e := tap.CourseOf(sixth(), moment(0, 0), long); e != api.OK || len(l) != 200 || l[199] != moment(4, 0) {
		t.Error(l, e)
	}
}

// P6.7: the errors of the regulator and the moment; too many disturbances; then each of them.
func TestCourseErrors(t *testing.T) {
	check := func(r api.TapRegulator, m api.TapMoment, disturbances []int, want api.Errno) {
		t.Helper()
		if l, e := tap.CourseOf(r, m, disturbances); l != nil || e != want {
			t.Error(r, m, len(disturbances), l, e)
		}
	}
	tooMany := slices.Repeat([]int{least}, 201)
	for _, x := range badRegulators() {
		r := sixth()
		x.change(&r)
		check(r, moment(0, 0), nil, x.want)
		check(r, moment(100, 100), tooMany, x.want)
	}
	for _, m := range badMoments() {
		check(sixth(), m, nil, api.ErrRange)
		check(sixth(), m, tooMany, api.ErrRange)
	}
	check(sixth(), moment(0, 0), make([]int, 201), api.ErrLarge)
	check(sixth(), moment(0, 0), tooMany, api.ErrLarge)
	for _, d := range badDisturbances() {
		check(sixth(), moment(0, 0), []int{d}, api.ErrRange)
		check(sixth(), moment(0, 0), []int{90, 90, d}, api.ErrRange)
		check(sixth(), moment(0, 0), append(make([]int, 199), d), api.ErrRange)
	}
}

// P6.7: the sixth and the seventh example, and others.
func TestSettlingOf(t *testing.T) {
	for _, x := range []struct {
		regulator   api.TapRegulator
		moment      api.TapMoment
		disturbance int
		ticks, tap  int
		want        api.Errno
	}{
		{sixth(), moment(0, 0), 90, 4, 2, api.OK},
		{sixth(), moment(0, 0), 60, 8, 4, api.OK},
		{sixth(), moment(0, 0), 140, 8, -4, api.OK},
		{banded(2), moment(0, 0), 93, 2, 1, api.OK},
		{banded(1), moment(0, 0), 93, 0, 0, api.ErrOpen},
		{banded(1), moment(-4, 1), 93, 0, 0, api.ErrOpen},
		{sixth(), moment(0, 0), 100, 0, 0, api.OK},
		{sixth(), moment(3, -1), 85, 0, 3, api.OK},
		{sixth(), moment(0, -1), 90, 3, 2, api.OK},
		{sixth(), moment(0, 1), 90, 4, 2, api.OK},
		{sixth(), moment(4, 0), 60, 0, 4, api.OK}, // the delay starts again and again
		{sixth(), moment(4, -1), 60, 0, 4, api.OK},
		{sixth(), moment(-4, 1), 160, 0, -4, api.OK},
		{patient(1), moment(0, 0), 90, 2, 2, api.OK},
		{patient(1), moment(-4, 0), 60, 8, 4, api.OK},
		{patient(20), moment(-4, 19), 60, 160, 4, api.OK},
		{patient(20), moment(-4, -19), 60, 141, 4, api.OK},
		{api.TapRegulator{Target: 1, Band: 0, Delay: 1, Step: 2, Taps: span(-40, 40)}, moment(40, 0), 0, 0, 0, api.ErrOpen},
		{api.TapRegulator{Target: 1, Band: 1, Delay: 1, Step: 2, Taps: span(-40, 40)}, moment(40, 0), 0, 39, 1, api.OK},
		{api.TapRegulator{Target: 1, Band: 0, Delay: 3, Step: 2, Taps: span(-40, 0)}, moment(-40, 0), 0, 120, 0, api.OK},
		{api.TapRegulator{Target: 1, Band: 0, Delay: 3, Step: 2, Taps: span(1, 40)}, moment(40, 0), 0, 117, 1, api.OK},
		{api.TapRegulator{Target: 10000, Band: 0, Delay: 20, Step: 1, Taps: span(-40, 40)}, moment(-40, 0), -10000, 1600, 40, api.OK},
	} {
		want := api.TapSettling{Ticks: x.ticks, Tap: x.tap}
		if s, e := tap.SettlingOf(x.regulator, x.moment, x.disturbance); s != want || e != x.want {
			t.Error(x, s, e)
		}
	}
}

// tickBy returns the moment after a tick with a voltage.
func tickBy(r api.TapRegulator, m api.TapMoment, voltage int) api.TapMoment {
	side := 0
	if voltage < r.Target-r.Band {
		side = -1
	}
	if voltage > r.Target+r.Band {
		side = 1
	}
	if m.Wait*side < 0 {
		m.Wait = 0
	}
	m.Wait = (m.Wait + side) * side * side
	if m.Wait == side*r.Delay && side != 0 {
		m.Wait = 0
		if next := m.Tap - side; next >= r.Taps.Lo && next <= r.Taps.Hi {
			m.Tap = next
		}
	}
	return m
}

// settlingBy returns the settling, by more ticks than a regulator has moments, twice.
func settlingBy(r api.TapRegulator, m api.TapMoment, disturbance int) (api.TapSettling, api.Errno) {
	moments := (r.Taps.Hi - r.Taps.Lo + 1) * (2*r.Delay - 1)
	last := 0
	for tick := range 2*moments + 2 {
		before := m.Tap
		m = tickBy(r, m, disturbance+r.Step*m.Tap)
		if m.Tap != before {
			last = tick + 1
		}
	}
	if last > moments {
		return api.TapSettling{}, api.ErrOpen
	}
	return api.TapSettling{Ticks: last, Tap: m.Tap}, api.OK
}

// P6.7: ticks, courses and settlings of all sorts of regulators.
func TestRegulators(t *testing.T) {
	r := numbers(20)
	seen := map[api.Errno]int{}
	for range 1000 {
		x := randomRegulator(&r, []int{3, 40}[r.below(2)], []int{1, 3, 20}[r.below(3)])
		m, d := randomMoment(&r, x), nearby(&r, x)
		if next, e := tap.Regulated(x, m, d); e != api.OK || next != tickBy(x, m, d+x.Step*m.Tap) {
			t.Fatal(x, m, d, next, e)
		}
		want, f := settlingBy(x, m, d)
		seen[f]++
		if s, e := tap.SettlingOf(x, m, d); s != want || e != f {
			t.Fatal(x, m, d, s, e, want, f)
		}
		var disturbances []int
		var moments []api.TapMoment
		for at := m; len(moments) < 30; moments = append(moments, at) {
			disturbances = append(disturbances, nearby(&r, x))
			at = tickBy(x, at, disturbances[len(moments)]+x.Step*at.Tap)
		}
		if l, e := tap.CourseOf(x, m, disturbances); e != api.OK || !slices.Equal(l, moments) {
			t.Fatal(x, m, disturbances, l, e, moments)
		}
	}
	if seen[api.OK] < 200 || seen[api.ErrOpen] < 100 {
		t.Error(seen)
	}
}

// P6.7: the worst settling, over all taps and both ends.
func TestWorstSettling(t *testing.T) {
	lone := sixth()
	lone.Taps = span(-3, -3)
	for _, x := range []struct {
		regulator    api.TapRegulator
		disturbances api.Range
		ticks, tap   int
		want         api.Errno
	}{
		{sixth(), span(100, 100), 8, 0, api.OK},
		{sixth(), span(90, 110), 12, -2, api.OK}, // also 2, from the lowest tap on
		{sixth(), span(90, 90), 12, 2, api.OK},
		{sixth(), span(60, 140), 16, -4, api.OK},
		{sixth(), span(60, 100), 16, 4, api.OK},
		{lone, span(60, 140), 0, -3, api.OK},
		{lone, span(110, 110), 0, -3, api.OK},
		{banded(40), span(100, 100), 0, -4, api.OK}, // no tap changes: the lowest of all taps
		{banded(1), span(93, 100), 0, 0, api.ErrOpen},
		{banded(1), span(100, 108), 0, 0, api.ErrOpen},
		{banded(1), span(100, 110), 12, -2, api.OK},
		{banded(1), span(99, 101), 8, 0, api.OK},
		{banded(1), span(90, 110), 12, -2, api.OK}, // the ends alone count: it never rests for 93
	} {
		want := api.TapSettling{Ticks: x.ticks, Tap: x.tap}
		if s, e := tap.WorstSettling(x.regulator, x.disturbances); s != want || e != x.want {
			t.Error(x, s, e)
		}
	}
}

// P6.7: the errors of the regulator; of both ends; of their order.
func TestWorstSettlingErrors(t *testing.T) {
	check := func(r api.TapRegulator, disturbances api.Range, want api.Errno) {
		t.Helper()
		if s, e := tap.WorstSettling(r, disturbances); s != (api.TapSettling{}) || e != want {
			t.Error(r, disturbances, s, e)
		}
	}
	for _, x := range badRegulators() {
		r := sixth()
		x.change(&r)
		check(r, span(90, 110), x.want)
		check(r, span(greatest, least), x.want)
		check(r, span(110, 90), x.want)
	}
	for _, d := range badDisturbances() {
		check(sixth(), span(d, 100), api.ErrRange)
		check(sixth(), span(100, d), api.ErrRange)
	}
	check(sixth(), span(101, 100), api.ErrOrder)
	check(banded(1), span(93, 92), api.ErrOrder) // before ErrOpen
	check(sixth(), span(10000, -10000), api.ErrOrder)
}

// P6.7: the worst of all settlings of all sorts of regulators.
func TestWorstSettlings(t *testing.T) {
	r := numbers(21)
	seen, ties := map[api.Errno]int{}, 0
	for range 1000 {
		x := randomRegulator(&r, []int{3, 10}[r.below(2)], []int{1, 3, 20}[r.below(3)])
		d := span(nearby(&r, x), nearby(&r, x))
		if d.Lo > d.Hi || r.below(3) == 0 {
			d.Hi = d.Lo
		}
		var all []api.TapSettling
		want := api.OK
		for _, end := range []int{d.Lo, d.Hi} {
			for at := x.Taps.Lo; at <= x.Taps.Hi; at++ {
				s, e := settlingBy(x, moment(at, 0), end)
				all, want = append(all, s), max(want, e)
			}
		}
		worst := slices.MaxFunc(all, func(a, b api.TapSettling) int {
			if a.Ticks == b.Ticks {
				if a.Tap != b.Tap {
					ties++
				}
				return b.Tap - a.Tap
			}
			return a.Ticks - b.Ticks
		})
		if want != api.OK {
			worst = api.TapSettling{}
		}
		seen[want]++
		if s, e := tap.WorstSettling(x, d); s != worst || e != want {
			t.Fatal(x, d, s, e, worst, want)
		}
	}
	if seen[api.OK] < 100 || seen[api.ErrOpen] < 50 || ties < 50 {
		t.Error(seen, ties)
	}
}

// sideOf returns -1, 0 or 1: whether a tap gives a voltage that is too low, within the band, or too high.
func sideOf(r api.TapRegulator, tap, disturbance int) int {
	switch voltage := disturbance + r.Step*tap; {
	case voltage < r.Target-r.Band:
		return -1
	case voltage > r.Target+r.Band:
		return 1
	}
	return 0
}

// P6.14: a regulator whose step is at most twice its band rests, and does so within the band or at an end of the taps.
func TestResting(t *testing.T) {
	r := numbers(22)
	for range 2000 {
		x := randomRegulator(&r, 40, 20)
		x.Band = r.from((x.Step+1)/2, min(x.Step, 10000))
		m, d := randomMoment(&r, x), nearby(&r, x)
		s, e := tap.SettlingOf(x, m, d)
		if e != api.OK {
			t.Fatal(x, m, d, e)
		}
		side := sideOf(x, s.Tap, d)
		if side < 0 && s.Tap != x.Taps.Hi || side > 0 && s.Tap != x.Taps.Lo {
			t.Fatal(x, m, d, s)
		}
	}
}

// P6.15: a regulator never rests if one tap is too low and the next one too high, and only then.
func TestHunting(t *testing.T) {
	r := numbers(23)
	hunting := 0
	for range 5000 {
		x := randomRegulator(&r, []int{3, 40}[r.below(2)], 20)
		m, d := randomMoment(&r, x), nearby(&r, x)
		want := api.OK
		for at := x.Taps.Lo; at < x.Taps.Hi; at++ {
			if sideOf(x, at, d) < 0 && sideOf(x, at+1, d) > 0 {
				want = api.ErrOpen
				hunting++
			}
		}
		if s, e := tap.SettlingOf(x, m, d); e != want {
			t.Fatal(x, m, d, s, e, want)
		}
	}
	if hunting < 500 || hunting > 4500 {
		t.Error(hunting)
	}
}
