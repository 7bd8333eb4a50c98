// Package tap is chapter 6: tap changers as contacts and rules, their failures or invariants, and regulators, alone or in pairs. See shared/doc/06-tap.md.
package tap

import "buchholz/api"

// firstOf returns the first error, or OK.
func firstOf(l ...api.Errno) api.Errno {
	for _, e := range l {
		if e != api.OK {
			return e
		}
	}
	return api.OK
}

// errorOf returns an error without its index.
func errorOf(_ int, e api.Errno) api.Errno {
	return e
}

// within returns the check that refuses numbers that are not from lo to hi.
func within(lo, hi int) func(...int) api.Errno {
	return func(l ...int) api.Errno {
		for _, n := range l {
			if n < lo || n > hi {
				return api.ErrRange
			}
		}
		return api.OK
	}
}

// sized returns the check that refuses numbers that are greater in size than most.
func sized(most int) func(...int) api.Errno {
	return within(-most, most)
}

// inOrder refuses a range whose lower end is greater than the upper one.
func inOrder(r api.Range) api.Errno {
	if r.Lo > r.Hi {
		return api.ErrOrder
	}
	return api.OK
}

// atMost refuses more items than most.
func atMost(n, most int) api.Errno {
	if n > most {
		return api.ErrLarge
	}
	return api.OK
}

// checkEach returns the index of the first item that is refused, and its error.
func checkEach[T any](l []T, check func(T) api.Errno) (int, api.Errno) {
	for i, item := range l {
		if e := check(item); e != api.OK {
			return i, e
		}
	}
	return 0, api.OK
}

// CheckMachine accepts a machine: it returns the index of the first wrong branch or guard, and its error.
func CheckMachine(m api.TapMachine) (int, api.Errno) {
	contacts := len(m.Branches)
	if contacts == 0 {
		return 0, api.ErrShape
	}
	if e := atMost(contacts, api.MaxTapBranches); e != api.OK {
		return 0, e
	}
	if i, e := checkEach(m.Branches, checkBranch); e != api.OK {
		return i, e
	}
	sets := setsOf(contacts)
	if e := firstOf(sets(m.Start), atMost(len(m.Guards), api.MaxTapGuards)); e != api.OK {
		return 0, e
	}
	return checkEach(m.Guards, func(g api.TapGuard) api.Errno {
		return firstOf(checkContact(g.Contact, contacts), sets(g.Closed, g.Open))
	})
}

func checkBranch(b api.TapBranch) api.Errno {
	return firstOf(within(0, 1)(b.Tap), within(0, api.MaxTapResistance)(b.Resistance))
}

// setsOf returns the check that refuses what is not a set of so many contacts.
func setsOf(contacts int) func(...int) api.Errno {
	return within(0, 1<<contacts-1)
}

// checkContact refuses what is not one of so many contacts.
func checkContact(contact, contacts int) api.Errno {
	if contact < 0 || contact >= contacts {
		return api.ErrMissing
	}
	return api.OK
}

// CheckLimits accepts limits.
func CheckLimits(l api.TapLimits) api.Errno {
	voltages := within(0, api.MaxTapVoltage)
	return firstOf(
		voltages(l.Voltage),
		checkLoad(l.Load.Lo),
		checkLoad(l.Load.Hi),
		inOrder(l.Load),
		voltages(l.Circulating, l.Break, l.Return),
	)
}

func checkLoad(load int) api.Errno {
	return sized(api.MaxTapCurrent)(load)
}

// CheckRegulator accepts a regulator.
func CheckRegulator(r api.TapRegulator) api.Errno {
	return firstOf(
		sized(api.MaxTapSwing)(r.Target),
		within(0, api.MaxTapSwing)(r.Band),
		within(1, api.MaxTapDelay)(r.Delay),
		within(1, api.MaxTapSwing)(r.Step),
		sized(api.MaxTapPosition)(r.Taps.Lo, r.Taps.Hi),
		inOrder(r.Taps),
	)
}

// checkMoment refuses what is not a moment of a valid regulator.
func checkMoment(r api.TapRegulator, m api.TapMoment) api.Errno {
	return firstOf(within(r.Taps.Lo, r.Taps.Hi)(m.Tap), sized(r.Delay-1)(m.Wait))
}

func checkDisturbance(disturbance int) api.Errno {
	return sized(api.MaxTapSwing)(disturbance)
}
