package group

import "buchholz/api"

// part is one of the parts P and Q, of phasors and of currents. Impedances are real, so that each part is computed without the other one.
type part struct {
	ofPhasor  func(api.GroupPhasor) int
	ofCurrent func(*api.GroupCurrent) *api.Frac
}

func parts() [2]part {
	return [2]part{
		{
			func(z api.GroupPhasor) int { return z.P },
			func(c *api.GroupCurrent) *api.Frac { return &c.P },
		},
		{
			func(z api.GroupPhasor) int { return z.Q },
			func(c *api.GroupCurrent) *api.Frac { return &c.Q },
		},
	}
}

// CurrentsOf returns the current of each of parallel sources that feed a load.
func CurrentsOf(l []api.GroupSource, load api.GroupPhasor) ([]api.GroupCurrent, api.Errno) {
	if e := firstOf(checkSources(l), checkPhasor(load)); e != api.OK {
		return nil, e
	}
	currents := make([]api.GroupCurrent, len(l))
	for _, p := range parts() {
		for i, f := range sharesOf(p, l, load) {
			if checkSize(f) != api.OK {
				return nil, api.ErrLarge
			}
			*p.ofCurrent(&currents[i]) = f
		}
	}
	return currents, api.OK
}

// sharesOf returns a part of each source's current: its voltage minus that of the bus, times its admittance.
//
// Over the product of all impedances' numerators the admittances are whole numbers, which, like the product, are at most 10^8. The differences of at most 2 10^6 of three voltages times them, and the load of at most 10^6 times the product, add up to at most 7 10^14: a hundred times that fits an int.
func sharesOf(p part, l []api.GroupSource, load api.GroupPhasor) []api.Frac {
	product := 1
	for _, s := range l {
		product *= s.Impedance.Num
	}
	sum, bus := 0, -p.ofPhasor(load)*product
	for _, s := range l {
		admittance := product / s.Impedance.Num * s.Impedance.Den
		sum += admittance
		bus += p.ofPhasor(s.Voltage) * admittance
	}
	shares := make([]api.Frac, len(l))
	for i, s := range l {
		drop := p.ofPhasor(s.Voltage)*sum - bus
		shares[i] = reduced(drop*s.Impedance.Den, sum*s.Impedance.Num)
	}
	return shares
}

// CheckCurrents accepts the currents of parallel sources that feed a load: it returns the index of the first wrong one, and its error.
func CheckCurrents(l []api.GroupSource, load api.GroupPhasor, c []api.GroupCurrent) (int, api.Errno) {
	if e := firstOf(checkSources(l), checkPhasor(load)); e != api.OK {
		return 0, e
	}
	if len(c) != len(l) {
		return 0, api.ErrShape
	}
	for i := range c {
		if e := checkCurrent(c[i]); e != api.OK {
			return i, e
		}
		if !sameBus(l[0], c[0], l[i], c[i]) {
			return i, api.ErrProof
		}
	}
	for _, p := range parts() {
		if !addsUp(p, c, p.ofPhasor(load)) {
			return 0, api.ErrOpen
		}
	}
	return 0, api.OK
}

func checkCurrent(c api.GroupCurrent) api.Errno {
	return firstOf(checkForm(c.P), checkForm(c.Q), checkSize(c.P), checkSize(c.Q))
}

// sameBus returns whether the voltage of the bus is the same by two sources and their currents.
func sameBus(s api.GroupSource, c api.GroupCurrent, t api.GroupSource, d api.GroupCurrent) bool {
	for _, p := range parts() {
		if busBy(p, s, c) != busBy(p, t, d) {
			return false
		}
	}
	return true
}

// busBy returns a part of the voltage of the bus in lowest terms, so that it can be compared.
func busBy(p part, s api.GroupSource, c api.GroupCurrent) api.Frac {
	z, current := s.Impedance, *p.ofCurrent(&c)
	den := z.Den * current.Den
	return reduced(p.ofPhasor(s.Voltage)*den-z.Num*current.Num, den)
}

// addsUp returns whether a part of at most four currents adds up to that of the load. A sum of four fractions may not fit an int, one of two that are less than 1 does: the whole numbers are kept apart, and the halves are compared.
func addsUp(p part, c []api.GroupCurrent, load int) bool {
	halves := [2]api.Frac{{Num: 0, Den: 1}, {Num: 0, Den: 1}}
	rest := load
	for i, x := range c {
		f := *p.ofCurrent(&x)
		left := modulo(f.Num, f.Den)
		rest -= (f.Num - left) / f.Den
		h := halves[i/2]
		halves[i/2] = reduced(h.Num*f.Den+left*h.Den, h.Den*f.Den)
	}
	if rest < 0 || rest >= api.MaxGroupUnits {
		return false
	}
	a := halves[0]
	return reduced(rest*a.Den-a.Num, a.Den) == halves[1]
}
