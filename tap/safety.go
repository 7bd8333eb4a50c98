package tap

import "buchholz/api"

// checkSafe refuses a state that is not safe.
func (c changer) checkSafe(state int) api.Errno {
	if e := c.checkCurrents(state); e != api.OK {
		return e
	}
	if isAbove(c.circulating(state), c.Circulating) {
		return api.ErrBreak
	}
	return api.OK
}

// checkMove refuses a change of a contact that is not safe.
func (c changer) checkMove(state, contact int) api.Errno {
	if !c.mayChange(state, contact) {
		return api.ErrAllowed
	}
	if e := firstOf(c.checkCurrents(state), c.checkSafe(changed(state, contact))); e != api.OK {
		return e
	}
	if !isIn(contact, state) {
		return api.OK
	}
	return firstOf(c.checkBreak(state, contact, c.Load.Lo), c.checkBreak(state, contact, c.Load.Hi))
}

// checkBreak refuses what a contact breaks, if it is too much.
func (c changer) checkBreak(state, contact, load int) api.Errno {
	broken := c.breakAt(state, contact, load)
	if isAbove(broken.Current, c.Break) {
		return api.ErrBreak
	}
	if isAbove(broken.Voltage, c.Return) {
		return api.ErrRefused
	}
	return api.OK
}

// CheckState accepts a safe state.
func CheckState(m api.TapMachine, l api.TapLimits, state int) api.Errno {
	c, e := checkedChanger(m, l)
	if e := firstOf(e, c.checkState(state)); e != api.OK {
		return e
	}
	return c.checkSafe(state)
}

// CheckMove accepts a safe change of a contact.
func CheckMove(m api.TapMachine, l api.TapLimits, state, contact int) api.Errno {
	c, e := checkedChanger(m, l)
	if e := firstOf(e, c.checkState(state), c.checkContact(contact)); e != api.OK {
		return e
	}
	return c.checkMove(state, contact)
}
