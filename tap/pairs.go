package tap

import "buchholz/api"

// pair is a valid pair with a constant disturbance.
type pair struct {
	a, b        regulator
	disturbance int
}

// moments is those of both regulators.
type moments [2]api.TapMoment

// next returns the moments after a tick, at which both regulators act by the same voltage.
func (p pair) next(m moments) moments {
	voltage := p.disturbance + halfOf(p.a.Step*m[0].Tap+p.b.Step*m[1].Tap)
	return moments{p.a.acts(m[0], voltage), p.b.acts(m[1], voltage)}
}

// halfOf returns the half of a number, rounded down.
func halfOf(n int) int {
	return n >> 1
}

// taps returns the taps of both regulators.
func (m moments) taps() [2]int {
	return [2]int{m[0].Tap, m[1].Tap}
}

// checkedPair returns a pair and its moments, if they and the disturbance are valid.
func checkedPair(p api.TapPair, disturbance int) (pair, moments, api.Errno) {
	e := firstOf(
		CheckRegulator(p.A),
		CheckRegulator(p.B),
		checkMoment(p.A, p.MomentA),
		checkMoment(p.B, p.MomentB),
		checkDisturbance(disturbance),
	)
	if e != api.OK {
		return pair{}, moments{}, e
	}
	return pair{regulator{p.A}, regulator{p.B}, disturbance}, moments{p.MomentA, p.MomentB}, api.OK
}

// PairRegulated returns a pair after a tick.
func PairRegulated(p api.TapPair, disturbance int) (api.TapPair, api.Errno) {
	x, m, e := checkedPair(p, disturbance)
	if e != api.OK {
		return api.TapPair{}, e
	}
	m = x.next(m)
	p.MomentA, p.MomentB = m[0], m[1]
	return p, api.OK
}

// PairRests returns after how many ticks no tap of a pair ever changes.
func PairRests(p api.TapPair, disturbance int) (int, api.Errno) {
	x, m, e := checkedPair(p, disturbance)
	if e != api.OK {
		return 0, e
	}
	ticks, _, rests := restOf(m, x.next, moments.taps)
	if !rests {
		return 0, api.ErrOpen
	}
	return ticks, api.OK
}
