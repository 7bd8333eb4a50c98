package field

import (
	"iter"

	"buchholz/api"
)

// piece is a straight piece of a curve.
type piece struct{ from, to api.FieldPoint }

// piecesOf yields the pieces of a curve. The last one goes on beyond its end.
func piecesOf(c api.FieldCurve) iter.Seq[piece] {
	return func(yield func(piece) bool) {
		var p piece
		for _, to := range c.Points {
			p = piece{from: p.to, to: to}
			if !yield(p) {
				return
			}
		}
	}
}

// pieceTo returns the first piece whose end is far enough, or the last one.
func pieceTo(c api.FieldCurve, isEnough func(end api.FieldPoint) bool) piece {
	var last piece
	for p := range piecesOf(c) {
		last = p
		if isEnough(p.to) {
			break
		}
	}
	return last
}

// rise returns by how much the flux and the ampere turns grow on a piece.
func (p piece) rise() api.FieldPoint {
	return api.FieldPoint{Flux: p.to.Flux - p.from.Flux, Turns: p.to.Turns - p.from.Turns}
}

// drop returns the drop of a valid curve at a flux from 0 on, as a numerator and a denominator.
func drop(c api.FieldCurve, flux int) (int, int) {
	p := pieceTo(c, func(end api.FieldPoint) bool { return flux <= end.Flux })
	rise := p.rise()
	return p.from.Turns*rise.Flux + (flux-p.from.Flux)*rise.Turns, rise.Flux
}

// fluxFor returns the flux of a valid curve for a gap and ampere turns from 0 on, as a numerator and a denominator.
func fluxFor(c api.FieldCurve, gap, turns int) (int, int) {
	p := pieceTo(c, func(end api.FieldPoint) bool { return turns <= end.Turns+gap*end.Flux })
	rise := p.rise()
	return (turns-p.from.Turns)*rise.Flux + p.from.Flux*rise.Turns, rise.Turns + gap*rise.Flux
}

// odd returns what a function gives for a number, and for a number below 0 the opposite of what it gives for the opposite number.
func odd(n int, of func(int) (num, den int)) (api.Frac, api.Errno) {
	num, den := of(max(n, -n))
	if n < 0 {
		num = -num
	}
	return fraction(num, den)
}

// isBelow returns whether a curve is below another one. This is decided at their points and by how steep they go on, for they are straight in between.
func isBelow(low, high api.FieldCurve) bool {
	for _, c := range [2]api.FieldCurve{low, high} {
		for _, p := range c.Points {
			lowNum, lowDen := drop(low, p.Flux)
			highNum, highDen := drop(high, p.Flux)
			if lowNum*highDen > highNum*lowDen {
				return false
			}
		}
	}
	beyond := func(api.FieldPoint) bool { return false }
	lowRise, highRise := pieceTo(low, beyond).rise(), pieceTo(high, beyond).rise()
	return lowRise.Turns*highRise.Flux <= highRise.Turns*lowRise.Flux
}

// DropAt returns the drop of a curve at a flux.
func DropAt(c api.FieldCurve, flux int) (api.Frac, api.Errno) {
	if e := firstOf(errorOf(CheckCurve(c)), sized(api.MaxFieldDrive)(flux)); e != api.OK {
		return api.Frac{}, e
	}
	return odd(flux, func(size int) (int, int) { return drop(c, size) })
}

// FluxFor returns the flux of a curve for a gap and ampere turns.
func FluxFor(c api.FieldCurve, gap, turns int) (api.Frac, api.Errno) {
	if e := firstOf(errorOf(CheckCurve(c)), within(0, api.MaxFieldReluctance)(gap), sized(api.MaxFieldDrive)(turns)); e != api.OK {
		return api.Frac{}, e
	}
	return odd(turns, func(size int) (int, int) { return fluxFor(c, gap, size) })
}

// FluxSpan returns the flux for the curve high and the upper end of the gap, and that for the curve low and the lower end.
func FluxSpan(low, high api.FieldCurve, x api.FieldDrive) (api.Span, api.Errno) {
	curves := firstOf(errorOf(CheckCurve(low)), errorOf(CheckCurve(high)))
	gap := checkEnds(x.Gap, within(0, api.MaxFieldReluctance))
	if e := firstOf(curves, gap, within(0, api.MaxFieldDrive)(x.Turns)); e != api.OK {
		return api.Span{}, e
	}
	if !isBelow(low, high) {
		return api.Span{}, api.ErrClash
	}
	lo, e := fraction(fluxFor(high, x.Gap.Hi, x.Turns))
	hi, f := fraction(fluxFor(low, x.Gap.Lo, x.Turns))
	return spanFrom(lo, e, hi, f)
}
