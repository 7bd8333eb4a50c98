package tap

import "buchholz/api"

// checkRun refuses a run that is too long, and a beginning that is not safe.
func (c changer) checkRun(run []int) api.Errno {
	return firstOf(atMost(len(run), api.MaxTapRun), c.checkSafe(c.Start))
}

// checkChange refuses what is not a contact, or a change of it that is not safe.
func (c changer) checkChange(state, contact int) api.Errno {
	if e := c.checkContact(contact); e != api.OK {
		return e
	}
	return c.checkMove(state, contact)
}

// statesOf returns the states before the first change of a run and after each one.
func (c changer) statesOf(run []int) ([]int, int, api.Errno) {
	if e := c.checkRun(run); e != api.OK {
		return nil, 0, e
	}
	state := c.Start
	states := []int{state}
	i, e := checkEach(run, func(contact int) api.Errno {
		if e := c.checkChange(state, contact); e != api.OK {
			return e
		}
		state = changed(state, contact)
		states = append(states, state)
		return api.OK
	})
	if e != api.OK {
		return nil, i, e
	}
	return states, 0, api.OK
}

// wearOf returns the wear of each contact by a run that leads through states.
func (c changer) wearOf(run, states []int, load int) ([]api.Frac, api.Errno) {
	wear := make([]api.Frac, len(c.Branches))
	for contact := range wear {
		wear[contact] = whole(0)
	}
	for i, contact := range run {
		if !isIn(contact, states[i]) {
			continue
		}
		square := squareOf(c.currents(states[i], load)[contact])
		if isTooLarge(square) {
			return nil, api.ErrLarge
		}
		wear[contact] = sumOf(wear[contact], square)
		if isTooLarge(wear[contact]) {
			return nil, api.ErrLarge
		}
	}
	return wear, api.OK
}

// RunOf returns the states before the first change of a run and after each one. If a change is not safe it returns its index.
func RunOf(m api.TapMachine, l api.TapLimits, run []int) ([]int, int, api.Errno) {
	c, e := checkedChanger(m, l)
	if e != api.OK {
		return nil, 0, e
	}
	return c.statesOf(run)
}

// WearOf returns the wear of each contact by a run. If a change is not safe it returns its index.
func WearOf(m api.TapMachine, l api.TapLimits, run []int, load int) ([]api.Frac, int, api.Errno) {
	c, e := checkedChanger(m, l)
	if e != api.OK {
		return nil, 0, e
	}
	states, i, e := c.statesOf(run)
	if e != api.OK {
		return nil, i, e
	}
	if e := checkLoad(load); e != api.OK {
		return nil, 0, e
	}
	wear, e := c.wearOf(run, states, load)
	return wear, 0, e
}
