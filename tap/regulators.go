package tap

import "buchholz/api"

// regulator is a valid regulator.
type regulator struct{ api.TapRegulator }

// acts returns the moment after a tick with a voltage.
func (r regulator) acts(m api.TapMoment, voltage int) api.TapMoment {
	switch {
	case voltage < r.Target-r.Band:
		return r.raises(m)
	case voltage > r.Target+r.Band:
		return r.lowers(m)
	}
	return api.TapMoment{Tap: m.Tap}
}

// raises returns the moment after a tick with a voltage that is too low.
func (r regulator) raises(m api.TapMoment) api.TapMoment {
	m.Wait = min(m.Wait, 0) - 1
	if m.Wait == -r.Delay {
		return api.TapMoment{Tap: min(m.Tap+1, r.Taps.Hi)}
	}
	return m
}

// lowers returns the moment after a tick with a voltage that is too high.
func (r regulator) lowers(m api.TapMoment) api.TapMoment {
	m.Wait = max(m.Wait, 0) + 1
	if m.Wait == r.Delay {
		return api.TapMoment{Tap: max(m.Tap-1, r.Taps.Lo)}
	}
	return m
}

// drive is a valid regulator with a constant disturbance.
type drive struct {
	regulator
	disturbance int
}

// next returns the moment after a tick.
func (d drive) next(m api.TapMoment) api.TapMoment {
	return d.acts(m, d.disturbance+d.Step*m.Tap)
}

func tapOf(m api.TapMoment) int {
	return m.Tap
}

// settling returns the settling from a moment on.
func (d drive) settling(m api.TapMoment) (api.TapSettling, api.Errno) {
	ticks, tap, rests := restOf(m, d.next, tapOf)
	if !rests {
		return api.TapSettling{}, api.ErrOpen
	}
	return api.TapSettling{Ticks: ticks, Tap: tap}, api.OK
}

// drives yields both ends of a range of disturbances, each one with all taps.
func (r regulator) drives(disturbances api.Range) func(func(drive, api.TapMoment) bool) {
	return func(yield func(drive, api.TapMoment) bool) {
		for _, disturbance := range [2]int{disturbances.Lo, disturbances.Hi} {
			for tap := r.Taps.Lo; tap <= r.Taps.Hi; tap++ {
				if !yield(drive{r, disturbance}, api.TapMoment{Tap: tap}) {
					return
				}
			}
		}
	}
}

// isWorse returns whether a settling takes longer than another one, or as long and ends at a lower tap.
func isWorse(s, than api.TapSettling) bool {
	return s.Ticks > than.Ticks || s.Ticks == than.Ticks && s.Tap < than.Tap
}

// Regulated returns the moment after a tick.
func Regulated(r api.TapRegulator, m api.TapMoment, disturbance int) (api.TapMoment, api.Errno) {
	if e := firstOf(CheckRegulator(r), checkMoment(r, m), checkDisturbance(disturbance)); e != api.OK {
		return api.TapMoment{}, e
	}
	return drive{regulator{r}, disturbance}.next(m), api.OK
}

// CourseOf returns the moments after each tick.
func CourseOf(r api.TapRegulator, m api.TapMoment, disturbances []int) ([]api.TapMoment, api.Errno) {
	if e := firstOf(CheckRegulator(r), checkMoment(r, m), atMost(len(disturbances), api.MaxTapTicks)); e != api.OK {
		return nil, e
	}
	if _, e := checkEach(disturbances, checkDisturbance); e != api.OK {
		return nil, e
	}
	var moments []api.TapMoment
	for _, disturbance := range disturbances {
		m = drive{regulator{r}, disturbance}.next(m)
		moments = append(moments, m)
	}
	return moments, api.OK
}

// SettlingOf returns the settling from a moment on.
func SettlingOf(r api.TapRegulator, m api.TapMoment, disturbance int) (api.TapSettling, api.Errno) {
	if e := firstOf(CheckRegulator(r), checkMoment(r, m), checkDisturbance(disturbance)); e != api.OK {
		return api.TapSettling{}, e
	}
	return drive{regulator{r}, disturbance}.settling(m)
}

// WorstSettling returns the longest settling for both ends of a range of disturbances, from any tap on.
func WorstSettling(r api.TapRegulator, disturbances api.Range) (api.TapSettling, api.Errno) {
	ends := firstOf(checkDisturbance(disturbances.Lo), checkDisturbance(disturbances.Hi), inOrder(disturbances))
	if e := firstOf(CheckRegulator(r), ends); e != api.OK {
		return api.TapSettling{}, e
	}
	worst := api.TapSettling{Tap: r.Taps.Lo} // the worst one if no tap ever changes
	for d, m := range (regulator{r}).drives(disturbances) {
		s, e := d.settling(m)
		if e != api.OK {
			return api.TapSettling{}, e
		}
		if isWorse(s, worst) {
			worst = s
		}
	}
	return worst, api.OK
}
