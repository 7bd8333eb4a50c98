package surge

import "buchholz/api"

// initial returns the initial voltages of a ladder that is valid, but may have no turns, as numerators over the first one of them.
//
// Any voltage (or charge, if it is earthed) of the last node determines those of all nodes before it. Each section multiplies what is known by its capacitance, so that all of it stays whole. From node to node the voltage grows at most by the factor 3 MaxSurgeCapacitance, so all numbers are below 10^17.
func initial(l api.SurgeLadder) []int {
	last := len(l.Series)
	v := make([]int, last+1)
	charge := 1 // of all capacitances behind the section
	if !l.Earthed {
		v[last], charge = 1, l.Earth[last-1]
	}
	for i := last - 1; i >= 0; i-- {
		v[i] = l.Series[i]*v[i+1] + charge
		charge *= l.Series[i]
		if i > 0 {
			charge += l.Earth[i-1] * v[i]
		}
	}
	factor := 1
	for i, series := range l.Series {
		factor *= series
		v[i+1] *= factor
	}
	return v
}

// final returns the final distribution of a valid ladder.
func final(l api.SurgeLadder) []api.Frac {
	all := 0
	for _, n := range l.Turns {
		all += n
	}
	u := []api.Frac{{Num: 1, Den: 1}}
	rest := all
	for _, n := range l.Turns {
		if l.Earthed {
			rest -= n
		}
		u = append(u, reduced(rest, all))
	}
	return u
}

// InitialOf returns the initial distribution.
func InitialOf(l api.SurgeLadder) ([]api.Frac, api.Errno) {
	if e := CheckLadder(l); e != api.OK {
		return nil, e
	}
	var u []api.Frac
	v := initial(l)
	for _, n := range v {
		f, e := limited(reduced(n, v[0]))
		if e != api.OK {
			return nil, e
		}
		u = append(u, f)
	}
	return u, api.OK
}

// FinalOf returns the final distribution.
func FinalOf(l api.SurgeLadder) ([]api.Frac, api.Errno) {
	if e := CheckLadder(l); e != api.OK {
		return nil, e
	}
	return final(l), api.OK
}

// WorstGap returns the first gap with the maximum initial stress, and this stress.
func WorstGap(l api.SurgeLadder) (int, api.Frac, api.Errno) {
	if _, e := InitialOf(l); e != api.OK {
		return 0, api.Frac{}, e
	}
	v := initial(l)
	worst := 0
	for i := range l.Series {
		if v[i]-v[i+1] > v[worst]-v[worst+1] {
			worst = i
		}
	}
	stress, e := limited(reduced(v[worst]-v[worst+1], v[0]))
	if e != api.OK {
		return 0, api.Frac{}, e
	}
	return worst, stress, api.OK
}

// EnvelopeOf returns the envelope of each node.
func EnvelopeOf(l api.SurgeLadder) ([]api.Frac, api.Errno) {
	u, e := InitialOf(l)
	if e != api.OK {
		return nil, e
	}
	var envelope []api.Frac
	for i, at := range final(l) {
		later, sooner := at.Num*u[i].Den, u[i].Num*at.Den
		f, e := limited(reduced(later+sizeOf(later-sooner), at.Den*u[i].Den))
		if e != api.OK {
			return nil, e
		}
		envelope = append(envelope, f)
	}
	return envelope, api.OK
}
