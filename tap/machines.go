package tap

import (
	"iter"
	"math/bits"

	"buchholz/api"
)

// machine is a valid machine.
type machine struct{ api.TapMachine }

func checkedMachine(m api.TapMachine) (machine, api.Errno) {
	if _, e := CheckMachine(m); e != api.OK {
		return machine{}, e
	}
	return machine{m}, api.OK
}

// contactsOf yields the contacts of a set, ascending.
func contactsOf(set int) iter.Seq[int] {
	return func(yield func(int) bool) {
		for ; set != 0; set &= set - 1 {
			if !yield(bits.TrailingZeros(uint(set))) {
				return
			}
		}
	}
}

// isIn returns whether a contact is in a set.
func isIn(contact, set int) bool {
	return set>>contact&1 == 1
}

// changed returns the state after a change of a contact.
func changed(state, contact int) int {
	return state ^ 1<<contact
}

// checkState refuses what is not a state.
func (m machine) checkState(state int) api.Errno {
	return setsOf(len(m.Branches))(state)
}

// checkContact refuses what is not a contact.
func (m machine) checkContact(contact int) api.Errno {
	return checkContact(contact, len(m.Branches))
}

// mayChange returns whether some guard permits that a contact changes.
func (m machine) mayChange(state, contact int) bool {
	closes := !isIn(contact, state)
	for _, g := range m.Guards {
		isAbout := g.Contact == contact && g.Closes == closes
		if isAbout && state&g.Closed == g.Closed && state&g.Open == 0 {
			return true
		}
	}
	return false
}

// moves yields the contacts that may change in a state, ascending, with the states after it.
func (m machine) moves(state int) iter.Seq2[int, int] {
	return func(yield func(int, int) bool) {
		for contact := range m.Branches {
			if m.mayChange(state, contact) && !yield(contact, changed(state, contact)) {
				return
			}
		}
	}
}

// MovesIn returns the contacts that may change in a state.
func MovesIn(m api.TapMachine, state int) ([]int, api.Errno) {
	x, e := checkedMachine(m)
	if e != api.OK {
		return nil, e
	}
	if e := x.checkState(state); e != api.OK {
		return nil, e
	}
	var contacts []int
	for contact := range x.moves(state) {
		contacts = append(contacts, contact)
	}
	return contacts, api.OK
}
