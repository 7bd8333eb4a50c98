package tap_test

import (
	"testing"

	"buchholz/api"
	"buchholz/tap"
)

// twins returns the pair of the eighth example: two regulators at the tap 0.
func twins() api.TapPair {
	return api.TapPair{A: sixth(), B: sixth()}
}

// pairOf returns a pair at these moments.
func pairOf(a, b api.TapRegulator, atA, atB api.TapMoment) api.TapPair {
	return api.TapPair{A: a, B: b, MomentA: atA, MomentB: atB}
}

type badPair struct {
	pair api.TapPair
	want api.Errno
}

// badPairs returns pairs that are not valid.
func badPairs() []badPair {
	backwards := sixth()
	backwards.Taps = span(1, 0)
	l := []badPair{
		{api.TapPair{}, api.ErrRange},
		{pairOf(backwards, api.TapRegulator{}, moment(9, 9), moment(9, 9)), api.ErrOrder},
		{pairOf(sixth(), backwards, moment(9, 9), moment(9, 9)), api.ErrOrder},
		{pairOf(api.TapRegulator{}, backwards, moment(0, 0), moment(0, 0)), api.ErrRange},
	}
	for _, x := range badRegulators() {
		a, b := twins(), twins()
		x.change(&a.A)
		x.change(&b.B)
		l = append(l, badPair{a, x.want}, badPair{b, x.want})
	}
	for _, m := range badMoments() {
		l = append(l,
			badPair{pairOf(sixth(), sixth(), m, moment(0, 0)), api.ErrRange},
			badPair{pairOf(sixth(), sixth(), moment(0, 0), m), api.ErrRange},
		)
	}
	one := sixth()
	one.Delay, one.Taps = 1, span(2, 2)
	return append(l, // each moment belongs to its own regulator
		badPair{pairOf(sixth(), one, moment(0, 0), moment(0, 0)), api.ErrRange},
		badPair{pairOf(one, sixth(), moment(0, 0), moment(0, 0)), api.ErrRange},
		badPair{pairOf(sixth(), one, moment(0, 0), moment(2, 1)), api.ErrRange},
		badPair{pairOf(one, sixth(), moment(2, -1), moment(0, 0)), api.ErrRange},
	)
}

// P6.8: the errors of the pair and the disturbance.
func TestPairErrors(t *testing.T) {
	check := func(p api.TapPair, disturbance int, want api.Errno) {
		t.Helper()
		if x, e := tap.PairRegulated(p, disturbance); x != (api.TapPair{}) || e != want {
			t.Error(p, disturbance, x, e)
		}
		if n, e := tap.PairRests(p, disturbance); n != 0 || e != want {
			t.Error(p, disturbance, n, e)
		}
	}
	for _, x := range badPairs() {
		check(x.pair, 90, x.want)
		check(x.pair, least, x.want)
	}
	for _, d := range badDisturbances() {
		check(twins(), d, api.ErrRange)
	}
}

// P6.8: a tick at which both act by one voltage, which is rounded down.
func TestPairRegulated(t *testing.T) {
	wider := banded(4)
	for _, x := range []struct {
		a, b        api.TapRegulator
		atA, atB    api.TapMoment
		disturbance int
		nextA       api.TapMoment
		nextB       api.TapMoment
	}{
		{sixth(), sixth(), moment(0, 0), moment(0, 0), 90, moment(0, -1), moment(0, -1)},
		{sixth(), sixth(), moment(0, -1), moment(0, -1), 90, moment(1, 0), moment(1, 0)},
		{sixth(), sixth(), moment(1, 1), moment(1, -1), 90, moment(1, -1), moment(2, 0)},
		{sixth(), patient(1), moment(0, 0), moment(0, 0), 110, moment(0, 1), moment(-1, 0)},
		{sixth(), wider, moment(0, 0), moment(0, 0), 96, moment(0, -1), moment(0, 0)},
		{sixth(), wider, moment(0, 0), moment(1, 0), 95, moment(0, 0), moment(1, 0)},     // 95 + 5/2: 97
		{sixth(), wider, moment(0, 0), moment(1, 0), 94, moment(0, -1), moment(1, 0)},    // 96
		{sixth(), wider, moment(1, 0), moment(0, 0), 102, moment(1, 1), moment(0, 0)},    // 104
		{sixth(), wider, moment(-1, 0), moment(0, 0), 100, moment(-1, 0), moment(0, 0)},  // 97, not 98
		{sixth(), wider, moment(-1, 0), moment(0, 0), 99, moment(-1, -1), moment(0, 0)},  // 96, not 97
		{sixth(), wider, moment(0, 0), moment(-3, 0), 111, moment(0, 0), moment(-3, 0)},  // 103, not 104
		{sixth(), wider, moment(2, 0), moment(-3, 0), 99, moment(2, -1), moment(-3, 0)},  // 96
		{sixth(), wider, moment(4, 0), moment(-4, 1), 104, moment(4, 1), moment(-4, 0)},  // nothing is added
		{sixth(), sixth(), moment(4, -1), moment(4, -1), 60, moment(4, 0), moment(4, 0)}, // the highest taps
	} {
		p, want := pairOf(x.a, x.b, x.atA, x.atB), pairOf(x.a, x.b, x.nextA, x.nextB)
		if got, e := tap.PairRegulated(p, x.disturbance); got != want || e != api.OK {
			t.Error(x, got.MomentA, got.MomentB, e)
		}
		p, want = pairOf(x.b, x.a, x.atB, x.atA), pairOf(x.b, x.a, x.nextB, x.nextA)
		if got, e := tap.PairRegulated(p, x.disturbance); got != want || e != api.OK {
			t.Error("exchanged", x, got.MomentA, got.MomentB, e)
		}
	}
}

// P6.8: the eighth example, after each tick.
func TestTwins(t *testing.T) {
	p := twins()
	for tick, want := range []api.TapMoment{moment(0, -1), moment(1, 0), moment(1, -1), moment(2, 0), moment(2, 0)} {
		if n, e := tap.PairRests(p, 90); n != max(0, 4-tick) || e != api.OK {
			t.Error(tick, n, e)
		}
		next, e := tap.PairRegulated(p, 90)
		if e != api.OK || next.MomentA != want || next.MomentB != want {
			t.Fatal(tick, next, e)
		}
		p = next
	}
}

// P6.8: pairs that rest, though neither regulator would alone; and the other way round.
func TestPairRests(t *testing.T) {
	alone := func(p api.TapPair, disturbance int, want api.Errno) {
		t.Helper()
		_, a := tap.SettlingOf(p.A, p.MomentA, disturbance)
		_, b := tap.SettlingOf(p.B, p.MomentB, disturbance)
		if a != want || b != want {
			t.Error(p, a, b)
		}
	}
	quick, slow := banded(1), banded(1)
	quick.Delay, slow.Delay = 1, 20
	p := pairOf(quick, slow, moment(0, 0), moment(0, 0))
	alone(p, 93, api.ErrOpen)
	if n, e := tap.PairRests(p, 93); n != 3 || e != api.OK { // 93, 95, 98, 100
		t.Error(n, e)
	}
	wide := banded(2)
	wide.Step = 10
	p = pairOf(wide, wide, moment(1, 0), moment(0, 0))
	alone(p, 100, api.OK)
	if n, e := tap.PairRests(p, 100); n != 0 || e != api.ErrOpen { // 105, 95, 105
		t.Error(n, e)
	}
	for _, x := range []struct {
		pair        api.TapPair
		disturbance int
		ticks       int
	}{
		{twins(), 100, 0},
		{twins(), 60, 8},  // both at the highest tap
		{twins(), 140, 8}, // both at the lowest tap
		{pairOf(sixth(), patient(3), moment(0, 0), moment(0, 0)), 60, 12},
		{pairOf(patient(3), sixth(), moment(0, 0), moment(0, 0)), 60, 12},
		{pairOf(sixth(), patient(20), moment(0, 0), moment(0, 0)), 90, 6}, // A alone: 92, 95, 97
		{pairOf(sixth(), sixth(), moment(4, 0), moment(4, -1)), 60, 0},
		{pairOf(patient(19), patient(20), moment(4, 0), moment(4, 0)), 60, 0},
	} {
		if n, e := tap.PairRests(x.pair, x.disturbance); n != x.ticks || e != api.OK {
			t.Error(x, n, e)
		}
	}
}

// tickPair returns a pair after a tick.
func tickPair(p api.TapPair, disturbance int) api.TapPair {
	twice := 2*disturbance + p.A.Step*p.MomentA.Tap + p.B.Step*p.MomentB.Tap
	voltage := twice / 2
	if twice%2 < 0 {
		voltage--
	}
	p.MomentA, p.MomentB = tickBy(p.A, p.MomentA, voltage), tickBy(p.B, p.MomentB, voltage)
	return p
}

// restBy returns after how many ticks a pair rests, by more ticks than it has moments, twice.
func restBy(p api.TapPair, disturbance int) (int, api.Errno) {
	moments := (p.A.Taps.Hi - p.A.Taps.Lo + 1) * (2*p.A.Delay - 1) * (p.B.Taps.Hi - p.B.Taps.Lo + 1) * (2*p.B.Delay - 1)
	last := 0
	for tick := range 2*moments + 2 {
		next := tickPair(p, disturbance)
		if next.MomentA.Tap != p.MomentA.Tap || next.MomentB.Tap != p.MomentB.Tap {
			last = tick + 1
		}
		p = next
	}
	if last > moments {
		return 0, api.ErrOpen
	}
	return last, api.OK
}

// P6.8: ticks and rests of all sorts of pairs.
func TestPairs(t *testing.T) {
	r := numbers(24)
	seen := map[api.Errno]int{}
	for range 2000 {
		taps, delay := r.from(0, 5), r.from(1, 5)
		p := api.TapPair{A: randomRegulator(&r, taps, delay), B: randomRegulator(&r, taps, delay)}
		if r.below(2) == 0 {
			p.B.Target, p.B.Band = p.A.Target, p.A.Band
		}
		p.MomentA, p.MomentB = randomMoment(&r, p.A), randomMoment(&r, p.B)
		d := nearby(&r, p.A)
		if next, e := tap.PairRegulated(p, d); e != api.OK || next != tickPair(p, d) {
			t.Fatal(p, d, next, e)
		}
		want, f := restBy(p, d)
		seen[f]++
		if n, e := tap.PairRests(p, d); n != want || e != f {
			t.Fatal(p, d, n, e, want, f)
		}
	}
	if seen[api.OK] < 500 || seen[api.ErrOpen] < 100 {
		t.Error(seen)
	}
}
