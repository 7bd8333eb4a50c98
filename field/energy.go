package field

import "buchholz/api"

// linked returns the sum of turns times flux, as a numerator over the denominator of the fluxes.
func linked(turns, fluxes []int) int {
	sum := 0
	for i, flux := range fluxes {
		sum += turns[i] * flux
	}
	return sum
}

// turnsOf returns the ampere turns of all branches.
func turnsOf(n api.FieldNet) []int {
	l := make([]int, len(n.Branches))
	for i, b := range n.Branches {
		l[i] = b.Turns
	}
	return l
}

// withTurns returns a network with other ampere turns.
func withTurns(n api.FieldNet, turns []int) api.FieldNet {
	changed := api.FieldNet{Nodes: n.Nodes, Branches: make([]api.FieldBranch, len(n.Branches))}
	for i, b := range n.Branches {
		b.Turns = turns[i]
		changed.Branches[i] = b
	}
	return changed
}

// withEnds returns a network whose reluctances are ends of ranges.
func withEnds(n api.FieldNet, l []api.Range, end func(api.Range) int) api.FieldNet {
	changed := api.FieldNet{Nodes: n.Nodes, Branches: make([]api.FieldBranch, len(n.Branches))}
	for i, b := range n.Branches {
		b.Reluctance = end(l[i])
		changed.Branches[i] = b
	}
	return changed
}

// energy returns the energy of a valid network.
func energy(n api.FieldNet) (api.Frac, api.Errno) {
	s := solve(n)
	return fraction(linked(turnsOf(n), s.Fluxes), s.Den)
}

// upperBound returns the upper bound of valid potentials.
func upperBound(n api.FieldNet, g api.FieldGuess) (api.Frac, api.Errno) {
	product := 1
	for _, b := range n.Branches {
		product *= b.Reluctance
	}
	sum := 0
	for _, b := range n.Branches {
		drop := dropOver(b, g.Values, g.Den)
		sum += product / b.Reluctance * drop * drop
	}
	return fraction(sum, product*g.Den*g.Den)
}

// lowerBound returns the lower bound of valid fluxes.
func lowerBound(n api.FieldNet, g api.FieldGuess) (api.Frac, api.Errno) {
	if e := errorOf(checkBalance(n, g.Values)); e != api.OK {
		return api.Frac{}, e
	}
	sum := 2 * g.Den * linked(turnsOf(n), g.Values)
	for i, b := range n.Branches {
		sum -= b.Reluctance * g.Values[i] * g.Values[i]
	}
	return fraction(sum, g.Den*g.Den)
}

// spanFrom returns the span of two ends, or the first one's error.
func spanFrom(lo api.Frac, e api.Errno, hi api.Frac, f api.Errno) (api.Span, api.Errno) {
	if e = firstOf(e, f); e != api.OK {
		return api.Span{}, e
	}
	return api.Span{Lo: lo, Hi: hi}, api.OK
}

// EnergyOf returns the energy.
func EnergyOf(n api.FieldNet) (api.Frac, api.Errno) {
	if e := errorOf(CheckNet(n)); e != api.OK {
		return api.Frac{}, e
	}
	return energy(n)
}

// UpperBound returns the upper bound of potentials.
func UpperBound(n api.FieldNet, potentials api.FieldGuess) (api.Frac, api.Errno) {
	if e := firstOf(errorOf(CheckNet(n)), checkGuess(potentials, n.Nodes)); e != api.OK {
		return api.Frac{}, e
	}
	return upperBound(n, potentials)
}

// LowerBound returns the lower bound of fluxes.
func LowerBound(n api.FieldNet, fluxes api.FieldGuess) (api.Frac, api.Errno) {
	if e := firstOf(errorOf(CheckNet(n)), checkGuess(fluxes, len(n.Branches))); e != api.OK {
		return api.Frac{}, e
	}
	return lowerBound(n, fluxes)
}

// EnergySpan returns the energies for the upper ends and the lower ends of ranges of the reluctances.
func EnergySpan(n api.FieldNet, l []api.Range) (api.Span, api.Errno) {
	if e := firstOf(errorOf(CheckNet(n)), checkRanges(n, l)); e != api.OK {
		return api.Span{}, e
	}
	lo, e := energy(withEnds(n, l, upper))
	hi, f := energy(withEnds(n, l, lower))
	return spanFrom(lo, e, hi, f)
}

// CheckEnclosure accepts two guesses, and returns their enclosure.
func CheckEnclosure(n api.FieldNet, l []api.Range, x api.FieldGuesses) (api.Span, api.Errno) {
	net, ranges := errorOf(CheckNet(n)), checkRanges(n, l)
	guesses := firstOf(checkGuess(x.Potentials, n.Nodes), checkGuess(x.Fluxes, len(n.Branches)))
	if e := firstOf(net, ranges, guesses); e != api.OK {
		return api.Span{}, e
	}
	lo, e := lowerBound(withEnds(n, l, upper), x.Fluxes)
	hi, f := upperBound(withEnds(n, l, lower), x.Potentials)
	return spanFrom(lo, e, hi, f)
}

// MutualOf returns the mutual inductance of two windings.
func MutualOf(n api.FieldNet, a, b []int) (api.Frac, api.Errno) {
	if e := firstOf(errorOf(CheckNet(n)), checkWinding(n, a), checkWinding(n, b)); e != api.OK {
		return api.Frac{}, e
	}
	s := solve(withTurns(n, a))
	return fraction(linked(b, s.Fluxes), s.Den)
}

// LeakageOf returns the leakage inductance of two windings.
func LeakageOf(n api.FieldNet, a, b []int) (api.Frac, api.Errno) {
	if e := firstOf(errorOf(CheckNet(n)), checkWinding(n, a), checkWinding(n, b)); e != api.OK {
		return api.Frac{}, e
	}
	sumA, sumB := sumOf(a), sumOf(b)
	if sumB == 0 {
		return api.Frac{}, api.ErrZero
	}
	turns := make([]int, len(n.Branches))
	for i := range turns {
		turns[i] = sumB*a[i] - sumA*b[i]
	}
	s := solve(withTurns(n, turns))
	return fraction(linked(turns, s.Fluxes), s.Den*sumB*sumB)
}
