package tap

import "buchholz/api"

// conductance is that of the resistance 1. It is a common multiple of all resistances, so that all conductances are whole.
const conductance = 2520

// changer is a valid machine with valid limits.
type changer struct {
	machine
	api.TapLimits
}

func checkedChanger(m api.TapMachine, l api.TapLimits) (changer, api.Errno) {
	x, e := checkedMachine(m)
	if e := firstOf(e, CheckLimits(l)); e != api.OK {
		return changer{}, e
	}
	return changer{x, l}, api.OK
}

// checkCurrents refuses a state in which the currents are not determined.
func (c changer) checkCurrents(state int) api.Errno {
	var direct [2]int // closed contacts without a resistance, by their taps
	for contact := range contactsOf(state) {
		if b := c.Branches[contact]; b.Resistance == 0 {
			direct[b.Tap]++
		}
	}
	switch {
	case state == 0:
		return api.ErrOpen
	case min(direct[0], direct[1]) > 0:
		return api.ErrClash
	case max(direct[0], direct[1]) > 1:
		return api.ErrDouble
	}
	return api.OK
}

// voltage returns the voltage of the tap of a contact.
func (c changer) voltage(contact int) int {
	return c.Voltage * c.Branches[contact].Tap
}

// output returns the voltage of the output, where the currents are determined.
func (c changer) output(state, load int) api.Frac {
	driven, all := -load*conductance, 0
	for contact := range contactsOf(state) {
		resistance := c.Branches[contact].Resistance
		if resistance == 0 {
			return whole(c.voltage(contact))
		}
		driven += c.voltage(contact) * (conductance / resistance)
		all += conductance / resistance
	}
	return reduced(driven, all)
}

// currents returns the current of each contact, where the currents are determined.
func (c changer) currents(state, load int) []api.Frac {
	l := make([]api.Frac, len(c.Branches))
	for contact := range l {
		l[contact] = whole(0)
	}
	output, direct := c.output(state, load), -1
	for contact := range contactsOf(state) {
		resistance := c.Branches[contact].Resistance
		if resistance == 0 {
			direct = contact
			continue
		}
		l[contact] = reduced(c.voltage(contact)*output.Den-output.Num, output.Den*resistance)
	}
	if direct >= 0 {
		l[direct] = sumOf(whole(load), negative(sumOf(l...)))
	}
	return l
}

// circulating returns the circulating current, where the currents are determined.
func (c changer) circulating(state int) api.Frac {
	var across []api.Frac
	for contact, current := range c.currents(state, 0) {
		if c.Branches[contact].Tap == 1 {
			across = append(across, current)
		}
	}
	return sizeOf(sumOf(across...))
}

// breakAt returns what a closed contact breaks, where the currents are determined before and after it opens.
func (c changer) breakAt(state, contact, load int) api.TapBreak {
	output := c.output(changed(state, contact), load)
	return api.TapBreak{
		Current: sizeOf(c.currents(state, load)[contact]),
		Voltage: sizeOf(sumOf(whole(c.voltage(contact)), negative(output))),
	}
}

// checkedKnown returns a changer, if the currents of a state with a load are determined.
func checkedKnown(m api.TapMachine, l api.TapLimits, state, load int) (changer, api.Errno) {
	c, e := checkedChanger(m, l)
	if e != api.OK {
		return changer{}, e
	}
	if e := firstOf(c.checkState(state), checkLoad(load)); e != api.OK {
		return changer{}, e
	}
	if e := c.checkCurrents(state); e != api.OK {
		return changer{}, e
	}
	return c, api.OK
}

// CurrentsIn returns the current of each contact in a state with a load.
func CurrentsIn(m api.TapMachine, l api.TapLimits, state, load int) ([]api.Frac, api.Errno) {
	c, e := checkedKnown(m, l, state, load)
	if e != api.OK {
		return nil, e
	}
	return c.currents(state, load), api.OK
}

// OutputIn returns the voltage of the output in a state with a load.
func OutputIn(m api.TapMachine, l api.TapLimits, state, load int) (api.Frac, api.Errno) {
	c, e := checkedKnown(m, l, state, load)
	if e != api.OK {
		return api.Frac{}, e
	}
	return c.output(state, load), api.OK
}

// CirculatingIn returns the circulating current in a state.
func CirculatingIn(m api.TapMachine, l api.TapLimits, state int) (api.Frac, api.Errno) {
	c, e := checkedKnown(m, l, state, 0)
	if e != api.OK {
		return api.Frac{}, e
	}
	return c.circulating(state), api.OK
}

// BreakAt returns what a contact breaks that opens in a state with a load.
func BreakAt(m api.TapMachine, l api.TapLimits, state, contact, load int) (api.TapBreak, api.Errno) {
	c, e := checkedChanger(m, l)
	if e != api.OK {
		return api.TapBreak{}, e
	}
	if e := firstOf(c.checkState(state), c.checkContact(contact), checkLoad(load)); e != api.OK {
		return api.TapBreak{}, e
	}
	if !isIn(contact, state) {
		return api.TapBreak{}, api.ErrState
	}
	if e := firstOf(c.checkCurrents(state), c.checkCurrents(changed(state, contact))); e != api.OK {
		return api.TapBreak{}, e
	}
	return c.breakAt(state, contact, load), api.OK
}
