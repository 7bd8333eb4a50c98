package tap_test

import (
	"fmt"
	"slices"
	"testing"

	"buchholz/api"
	"buchholz/tap"
)

type badMachine struct {
	name   string
	change func(*api.TapMachine)
	index  int
	want   api.Errno
}

// badMachines returns how the machine of the examples is made one that is not valid.
func badMachines() []badMachine {
	l := []badMachine{
		{"nothing", func(m *api.TapMachine) { *m = api.TapMachine{} }, 0, api.ErrShape},
		{"no branches", func(m *api.TapMachine) { m.Branches = []api.TapBranch{} }, 0, api.ErrShape},
		{"no branches, a wrong start", func(m *api.TapMachine) { m.Branches, m.Start = nil, -1 }, 0, api.ErrShape},
		{"seven branches", func(m *api.TapMachine) { m.Branches = make([]api.TapBranch, 7) }, 0, api.ErrLarge},
		{"seven wrong branches", func(m *api.TapMachine) { m.Branches = slices.Repeat([]api.TapBranch{{Tap: 2}}, 7) }, 0, api.ErrLarge},
		{"a wrong branch, a wrong start", func(m *api.TapMachine) { m.Branches[1].Tap, m.Start = 2, -1 }, 1, api.ErrRange},
		{"two wrong branches", func(m *api.TapMachine) { m.Branches[2].Tap, m.Branches[1].Resistance = 2, -1 }, 1, api.ErrRange},
		{"a wrong start, a wrong guard", func(m *api.TapMachine) { m.Start, m.Guards[1].Contact = 16, 4 }, 0, api.ErrRange},
		{"a wrong start, too many guards", func(m *api.TapMachine) { m.Start, m.Guards = 16, make([]api.TapGuard, 31) }, 0, api.ErrRange},
		{"too many guards", func(m *api.TapMachine) { m.Guards = make([]api.TapGuard, 31) }, 0, api.ErrLarge},
		{"too many wrong guards", func(m *api.TapMachine) { m.Guards = slices.Repeat([]api.TapGuard{{Contact: 4}}, 31) }, 0, api.ErrLarge},
		{"a guard without a contact and with wrong sets", func(m *api.TapMachine) { m.Guards[2] = api.TapGuard{Contact: 4, Closed: -1, Open: 16} }, 2, api.ErrMissing},
		{"a wrong set before a missing contact", func(m *api.TapMachine) { m.Guards[1].Open, m.Guards[2].Contact = 16, 4 }, 1, api.ErrRange},
		{"a missing contact before a wrong set", func(m *api.TapMachine) { m.Guards[1].Contact, m.Guards[2].Open = 4, 16 }, 1, api.ErrMissing},
		{"the last guard of 30", func(m *api.TapMachine) { m.Guards = make([]api.TapGuard, 30); m.Guards[29].Closed = 16 }, 29, api.ErrRange},
		{"a set of fewer contacts", func(m *api.TapMachine) { m.Branches, m.Guards[0].Open, m.Guards[0].Closed = m.Branches[:2], 3, 4 }, 0, api.ErrRange},
		{"a start of fewer contacts", func(m *api.TapMachine) { m.Branches, m.Start, m.Guards = m.Branches[:1], 2, nil }, 0, api.ErrRange},
	}
	for i := range 4 {
		for _, n := range []int{-1, least, greatest} {
			l = append(l,
				badMachine{fmt.Sprint("the tap ", n, i), func(m *api.TapMachine) { m.Branches[i].Tap = n }, i, api.ErrRange},
				badMachine{fmt.Sprint("the resistance ", n, i), func(m *api.TapMachine) { m.Branches[i].Resistance = n }, i, api.ErrRange},
				badMachine{fmt.Sprint("the contact ", n, i), func(m *api.TapMachine) { m.Guards[i].Contact = n }, i, api.ErrMissing},
				badMachine{fmt.Sprint("the closed set ", n, i), func(m *api.TapMachine) { m.Guards[i].Closed = n }, i, api.ErrRange},
				badMachine{fmt.Sprint("the open set ", n, i), func(m *api.TapMachine) { m.Guards[i].Open = n }, i, api.ErrRange},
			)
		}
		l = append(l,
			badMachine{fmt.Sprint("the tap 2", i), func(m *api.TapMachine) { m.Branches[i].Tap = 2 }, i, api.ErrRange},
			badMachine{fmt.Sprint("the resistance 11", i), func(m *api.TapMachine) { m.Branches[i].Resistance = 11 }, i, api.ErrRange},
			badMachine{fmt.Sprint("the contact 4", i), func(m *api.TapMachine) { m.Guards[i].Contact = 4 }, i, api.ErrMissing},
			badMachine{fmt.Sprint("the closed set 16", i), func(m *api.TapMachine) { m.Guards[i].Closed = 16 }, i, api.ErrRange},
			badMachine{fmt.Sprint("the open set 16", i), func(m *api.TapMachine) { m.Guards[i].Open = 16 }, i, api.ErrRange},
		)
	}
	for _, n := range []int{-1, 16, least, greatest} {
		l = append(l, badMachine{fmt.Sprint("the start ", n), func(m *api.TapMachine) { m.Start = n }, 0, api.ErrRange})
	}
	return l
}

// refuseMachines checks a function with each machine that is not valid: it returns whether the result is a zero value, and the error.
func refuseMachines(t *testing.T, name string, call func(api.TapMachine) (bool, api.Errno)) {
	t.Helper()
	for _, x := range badMachines() {
		m := machine(t, late)
		x.change(&m)
		if zero, e := call(m); !zero || e != x.want {
			t.Error(name, x.name, zero, e)
		}
	}
}

// badLimits returns limits that are not valid.
func badLimits() map[api.TapLimits]api.Errno {
	bad := map[api.TapLimits]api.Errno{}
	with := func(want api.Errno, change func(*api.TapLimits)) {
		l := usual()
		change(&l)
		bad[l] = want
	}
	for _, n := range []int{-1, 1001, least, greatest} {
		with(api.ErrRange, func(l *api.TapLimits) { l.Voltage = n })
		with(api.ErrRange, func(l *api.TapLimits) { l.Circulating = n })
		with(api.ErrRange, func(l *api.TapLimits) { l.Break = n })
		with(api.ErrRange, func(l *api.TapLimits) { l.Return = n })
		with(api.ErrRange, func(l *api.TapLimits) { l.Voltage, l.Load = n, span(1, 0) })
		with(api.ErrOrder, func(l *api.TapLimits) { l.Load, l.Circulating, l.Break, l.Return = span(1, 0), n, n, n })
	}
	for _, n := range []int{1001, -1001, least, greatest} {
		with(api.ErrRange, func(l *api.TapLimits) { l.Load.Lo = n })
		with(api.ErrRange, func(l *api.TapLimits) { l.Load.Hi = n })
	}
	with(api.ErrOrder, func(l *api.TapLimits) { l.Load = span(1000, -1000) })
	with(api.ErrOrder, func(l *api.TapLimits) { l.Load = span(11, 10) })
	return bad
}

// refuseLimits checks a function with limits that are not valid: it returns whether the result is a zero value, and the error.
func refuseLimits(t *testing.T, name string, call func(api.TapLimits) (bool, api.Errno)) {
	t.Helper()
	for l, want := range badLimits() {
		if zero, e := call(l); !zero || e != want {
			t.Error(name, l, zero, e, want)
		}
	}
}

// P6.1: machines, up to the limits.
func TestCheckMachine(t *testing.T) {
	full := api.TapMachine{Branches: slices.Repeat([]api.TapBranch{{Tap: 1, Resistance: 10}}, 6), Start: 63}
	full.Guards = slices.Repeat([]api.TapGuard{{Contact: 5, Closed: 63, Open: 63}}, 30)
	one := api.TapMachine{Branches: []api.TapBranch{{}}}
	for _, m := range []api.TapMachine{full, one, machine(t, bare), machine(t, early), machine(t, late)} {
		if i, e := tap.CheckMachine(m); i != 0 || e != api.OK {
			t.Error(m, i, e)
		}
	}
	for _, x := range badMachines() {
		m := machine(t, late)
		x.change(&m)
		if i, e := tap.CheckMachine(m); i != x.index || e != x.want {
			t.Error(x.name, i, e)
		}
	}
}

// P6.1: limits, up to the ends.
func TestCheckLimits(t *testing.T) {
	for _, l := range []api.TapLimits{
		{},
		usual(),
		{Voltage: 1000, Load: span(-1000, 1000), Circulating: 1000, Break: 1000, Return: 1000},
		{Load: span(-1000, -1000)},
		{Load: span(1000, 1000)},
	} {
		if e := tap.CheckLimits(l); e != api.OK {
			t.Error(l, e)
		}
	}
	refuseLimits(t, "CheckLimits", func(l api.TapLimits) (bool, api.Errno) { return true, tap.CheckLimits(l) })
}

// badStates returns numbers that are not states of four contacts.
func badStates() []int {
	return []int{-1, 16, 64, least, greatest}
}

// P6.3: the contacts that may change; several guards may permit the same change.
func TestMovesIn(t *testing.T) {
	for _, x := range []struct {
		machine string
		state   int
		want    []int
	}{
		{bare, 3, nil},
		{early, 3, []int{0}},
		{early, 2, []int{2}},
		{early, 6, []int{1, 3}},
		{early, 0, nil},
		{early, 15, nil},
		{late, 6, []int{1}},
		{late, 4, []int{3}},
		{late, 12, nil},
		{"0 t0r0 t0r1 t1r1 +2/0/0 +0/0/0 +1/0/0", 0, []int{0, 1, 2}},
		{"0 t0r0 t0r1 t1r1 +2/0/0 +0/0/0 +1/0/0", 5, []int{1}},
		{"0 t0r0 t0r1 t1r1 +2/0/0 +0/0/0 +1/0/0", 7, nil},
		{"0 t0r0 t0r1 +1/1/0 +1/0/1 +1/0/0", 0, []int{1}},
		{"0 t0r0 t0r1 +1/1/0 +1/0/1 +1/0/0", 1, []int{1}},
		{"0 t0r0 t0r1 +1/1/0 -1/0/1 +1/0/1", 0, []int{1}},
		{"0 t0r0 t0r1 +1/1/0 -1/0/1 +1/0/1", 2, []int{1}},
		{"0 t0r0 t0r1 +1/1/0 -1/0/1 +1/0/1", 3, nil},
		{"0 t0r0 +0/1/0", 0, nil},           // it never closes: it must be closed
		{"0 t0r0 -0/0/1", 1, nil},           // it never opens: it must be open
		{"0 t0r0 t0r1 +1/1/1", 1, nil},      // the contact 0 must be closed and open
		{"0 t0r0 -0/1/0", 1, []int{0}},      // it is closed itself
		{"0 t0r0 t0r0 -0/3/0", 3, []int{0}}, // both are closed
		{"0 t0r0 t0r0 -0/3/0", 1, nil},      // one of both
		{"0 t0r0 t0r0 t0r0 +0/0/6", 4, nil}, // one of both is closed
		{"0 t0r0 t0r0 t0r0 -0/0/0", 6, nil}, // it is open
		{"63 t0r0 t0r0 t0r0 t0r0 t0r0 t0r0 -5/63/0", 63, []int{5}},
	} {
		if l, e := tap.MovesIn(machine(t, x.machine), x.state); e != api.OK || !slices.Equal(l, x.want) {
			t.Error(x, l, e)
		}
	}
}

// P6.3: the errors of the machine, then of the state.
func TestMovesInErrors(t *testing.T) {
	for _, state := range []int{3, -1} {
		refuseMachines(t, "MovesIn", func(m api.TapMachine) (bool, api.Errno) {
			l, e := tap.MovesIn(m, state)
			return l == nil, e
		})
	}
	for _, state := range badStates() {
		if l, e := tap.MovesIn(machine(t, late), state); l != nil || e != api.ErrRange {
			t.Error(state, l, e)
		}
	}
}

// P6.3: the contacts that may change in all states of all sorts of machines.
func TestMoves(t *testing.T) {
	r := numbers(1)
	for range 500 {
		m := randomMachine(&r, 10)
		for state := range 1 << len(m.Branches) {
			var want []int
			for contact := range m.Branches {
				if mayBy(m, state, contact) {
					want = append(want, contact)
				}
			}
			if l, e := tap.MovesIn(m, state); e != api.OK || !slices.Equal(l, want) {
				t.Fatal(tap.FormatMachine(m), state, l, e, want)
			}
		}
	}
}

// P6.5: the states that are reached, also those that are not safe; without guards only Start.
func TestReachable(t *testing.T) {
	for s, want := range map[string][]int{
		bare:                                    {3},
		early:                                   {2, 3, 4, 6, 12, 14},
		late:                                    {2, 3, 4, 6, 12},
		"0 t0r0":                                {0},
		"0 t0r0 t1r0 +0/0/0 +1/0/0":             {0, 1, 2, 3},
		"3 t0r0 t1r0 -0/0/0 -1/0/0":             {0, 1, 2, 3},
		"0 t0r0 t1r0 +0/2/0 +1/1/0":             {0},
		"0 t0r0 t1r0 t1r0 +0/0/0 +1/1/0 -0/2/4": {0, 1, 2, 3},
	} {
		if l, e := tap.Reachable(machine(t, s)); e != api.OK || !slices.Equal(l, want) {
			t.Error(s, l, e)
		}
	}
	refuseMachines(t, "Reachable", func(m api.TapMachine) (bool, api.Errno) {
		l, e := tap.Reachable(m)
		return l == nil, e
	})
}

// reachedBy returns the states that are reached, ascending.
func reachedBy(m api.TapMachine) []int {
	is := map[int]bool{m.Start: true}
	for range 1 << len(m.Branches) { // no run to a state needs more changes
		for state := range 1 << len(m.Branches) {
			for contact := range m.Branches {
				if is[state] && mayBy(m, state, contact) {
					is[after(m, state, contact)] = true
				}
			}
		}
	}
	var l []int
	for state := range 1 << len(m.Branches) {
		if is[state] {
			l = append(l, state)
		}
	}
	return l
}

// P6.5: the states that all sorts of machines reach.
func TestReachableStates(t *testing.T) {
	r := numbers(2)
	most := 0
	for range 1000 {
		m := randomMachine(&r, 10)
		want := reachedBy(m)
		most = max(most, len(want))
		if l, e := tap.Reachable(m); e != api.OK || !slices.Equal(l, want) {
			t.Fatal(tap.FormatMachine(m), l, e, want)
		}
	}
	if most < 40 {
		t.Error(most)
	}
}
