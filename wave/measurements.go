package wave

import "buchholz/api"

const (
	resistanceZero = -2350   // the temperature (tenths of a degree) from which on resistances rise in proportion
	phaseParts     = 1000000 // phase errors are millionths
)

// warming is three temperatures at equal distances of time.
type warming [3]int

// RatioOf returns the span of the quotients of two ranges.
func RatioOf(high, low api.Range) (api.Span, api.Errno) {
	isPart := within(1, api.MaxPart)
	if e := firstOf(checkRange(high, isPart), checkRange(low, isPart)); e != api.OK {
		return api.Span{}, e
	}
	return api.Span{Lo: reduced(high.Lo, low.Hi), Hi: reduced(high.Hi, low.Lo)}, api.OK
}

// ResistanceAt returns the resistance at another temperature.
func ResistanceAt(r, from, to int) (api.Frac, api.Errno) {
	if e := firstOf(within(1, api.MaxWaveResistance)(r), checkTemperatures(from, to)); e != api.OK {
		return api.Frac{}, e
	}
	f := reduced(r*(to-resistanceZero), from-resistanceZero)
	if isTooLarge(f) {
		return api.Frac{}, api.ErrLarge
	}
	return f, api.OK
}

// LossOf returns the range of the loss over all phase errors of a range.
func LossOf(active, reactive int, phase api.Range) (api.Range, api.Errno) {
	e := firstOf(
		within(0, api.MaxPart)(active),
		sized(api.MaxPart)(reactive),
		checkRange(phase, sized(api.MaxWavePhase)),
	)
	if e != api.OK {
		return api.Range{}, e
	}
	// The loss is straight over the phase errors: it has its extremes at the ends of their range.
	a, b := lossParts(active, reactive, phase.Lo), lossParts(active, reactive, phase.Hi)
	return rounded(min(a, b), max(a, b), phaseParts), api.OK
}

// lossParts returns the loss at a phase error, in millionths.
func lossParts(active, reactive, phase int) int {
	return active*phaseParts - reactive*phase
}

// rises returns by how much the temperature rises between the first two times, and between the last two.
func (x warming) rises() [2]int {
	return [2]int{x[1] - x[0], x[2] - x[1]}
}

// changed returns the temperatures that are wrong by a number each, in the directions in which the end temperature rises.
func (x warming) changed(by int) warming {
	return warming{x[0] + by, x[1] - by, x[2] + by}
}

// isClosed returns whether the temperature does not fall at last, and rises less than before.
func (x warming) isClosed() bool {
	rises := x.rises()
	return rises[1] >= 0 && rises[0] > rises[1]
}

// end returns the end temperature.
func (x warming) end() api.Frac {
	rises := x.rises()
	den := rises[0] - rises[1]
	return reduced(x[2]*den+rises[1]*rises[1], den)
}

// EndOf returns the enclosure of the end temperature.
func EndOf(x [3]int, e int) (api.Span, api.Errno) {
	if wrong := firstOf(checkTemperatures(x[:]...), checkError(e)); wrong != api.OK {
		return api.Span{}, wrong
	}
	low, high := warming(x).changed(-e), warming(x).changed(e)
	if !low.isClosed() || !high.isClosed() {
		return api.Span{}, api.ErrOpen
	}
	return api.Span{Lo: low.end(), Hi: high.end()}, api.OK
}
