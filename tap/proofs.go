package tap

import (
	"maps"
	"slices"

	"buchholz/api"
)

// firstRuns returns the first one of the shortest runs to each state that is reached. If a change is refused it returns the first one of the shortest runs that end with such a change, and false.
// Runs are followed in the order of their lengths, and of several of one length in their own order, since the states after shorter runs are followed first, and the contacts of a state are ascending.
func (m machine) firstRuns(accepts func(state, contact int) bool) (map[int][]int, []int, bool) {
	runs := map[int][]int{m.Start: nil}
	queue := []int{m.Start}
	for len(queue) > 0 {
		state := queue[0]
		queue = queue[1:]
		for contact, after := range m.moves(state) {
			run := append(slices.Clone(runs[state]), contact)
			if !accepts(state, contact) {
				return nil, run, false
			}
			if _, is := runs[after]; !is {
				runs[after] = run
				queue = append(queue, after)
			}
		}
	}
	return runs, nil, true
}

// firstFailure returns the first failure and true, or otherwise the first runs to all states that are reached.
func (c changer) firstFailure() (map[int][]int, []int, bool) {
	if c.checkSafe(c.Start) != api.OK {
		return nil, nil, true
	}
	runs, failure, holds := c.firstRuns(func(state, contact int) bool {
		return c.checkMove(state, contact) == api.OK
	})
	return runs, failure, !holds
}

// Reachable returns all states to which runs of permitted changes lead.
func Reachable(m api.TapMachine) ([]int, api.Errno) {
	x, e := checkedMachine(m)
	if e != api.OK {
		return nil, e
	}
	runs, _, _ := x.firstRuns(func(int, int) bool { return true })
	return slices.Sorted(maps.Keys(runs)), api.OK
}

// FailureOf returns the first failure.
func FailureOf(m api.TapMachine, l api.TapLimits) ([]int, api.Errno) {
	c, e := checkedChanger(m, l)
	if e != api.OK {
		return nil, e
	}
	_, failure, fails := c.firstFailure()
	if !fails {
		return nil, api.ErrNone
	}
	return failure, api.OK
}

// InvariantOf returns the smallest invariant.
func InvariantOf(m api.TapMachine, l api.TapLimits) ([]int, api.Errno) {
	c, e := checkedChanger(m, l)
	if e != api.OK {
		return nil, e
	}
	runs, _, fails := c.firstFailure()
	if fails {
		return nil, api.ErrNone
	}
	return slices.Sorted(maps.Keys(runs)), api.OK
}

// known is, for each state of a machine, whether it is in a set.
type known [1 << api.MaxTapBranches]bool

// knownOf returns the set of those numbers that are states.
func (m machine) knownOf(states []int) known {
	var k known
	for _, state := range states {
		if m.checkState(state) == api.OK {
			k[state] = true
		}
	}
	return k
}

// checkClosed refuses a state from which a change is permitted that is not safe, or that leads to a state that is not known.
func (c changer) checkClosed(state int, k known) api.Errno {
	for contact, after := range c.moves(state) {
		if e := c.checkMove(state, contact); e != api.OK {
			return e
		}
		if !k[after] {
			return api.ErrGap
		}
	}
	return api.OK
}

// CheckInvariant accepts an invariant: it returns the index of the first wrong state, and its error.
func CheckInvariant(m api.TapMachine, l api.TapLimits, states []int) (int, api.Errno) {
	c, e := checkedChanger(m, l)
	if e != api.OK {
		return 0, e
	}
	k, before := c.knownOf(states), -1
	i, e := checkEach(states, func(state int) api.Errno {
		if e := c.checkState(state); e != api.OK {
			return e
		}
		if state <= before {
			return api.ErrOrder
		}
		before = state
		return firstOf(c.checkSafe(state), c.checkClosed(state, k))
	})
	if e != api.OK {
		return i, e
	}
	if !k[c.Start] {
		return 0, api.ErrMissing
	}
	return 0, api.OK
}
