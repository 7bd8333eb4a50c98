package tap_test

import (
	"testing"

	"buchholz/api"
	"buchholz/tap"
)

// P6.4: safe states, and others.
func TestCheckState(t *testing.T) {
	for _, x := range []struct {
		machine              string
		voltage, circulating int
		state                int
		want                 api.Errno
	}{
		{bare, 12, 4, 6, api.OK},
		{bare, 12, 3, 6, api.OK},
		{bare, 12, 2, 6, api.ErrBreak},
		{bare, 13, 3, 6, api.ErrBreak}, // 13/4
		{bare, 12, 4, 14, api.ErrBreak},
		{bare, 12, 5, 7, api.ErrBreak},
		{bare, 12, 6, 7, api.OK},
		{bare, 12, 0, 2, api.OK},
		{bare, 1000, 0, 4, api.OK},
		{bare, 12, 0, 3, api.OK},
		{bare, 0, 0, 14, api.OK},
		{bare, 1, 0, 6, api.ErrBreak}, // 1/4
	} {
		l := usual()
		l.Voltage, l.Circulating = x.voltage, x.circulating
		if e := tap.CheckState(machine(t, x.machine), l, x.state); e != x.want {
			t.Error(x, e)
		}
	}
}

// P6.4: the errors of the machine, the limits and the state; then the error of currents.
func TestCheckStateErrors(t *testing.T) {
	m := machine(t, late)
	for _, state := range []int{6, 0, -1} {
		refuseMachines(t, "CheckState", func(m api.TapMachine) (bool, api.Errno) {
			return true, tap.CheckState(m, usual(), state)
		})
		refuseMachines(t, "CheckState", func(m api.TapMachine) (bool, api.Errno) {
			return true, tap.CheckState(m, api.TapLimits{Voltage: -1}, state)
		})
		refuseLimits(t, "CheckState", func(l api.TapLimits) (bool, api.Errno) {
			return true, tap.CheckState(m, l, state)
		})
	}
	for _, state := range badStates() {
		if e := tap.CheckState(m, usual(), state); e != api.ErrRange {
			t.Error(state, e)
		}
	}
	for s, states := range unknown() {
		for state, want := range states {
			if e := tap.CheckState(machine(t, s), wide(), state); e != want {
				t.Error(s, state, e, want)
			}
		}
	}
}

// P6.4: safe changes, and the limits that others break.
func TestCheckMove(t *testing.T) {
	for _, x := range []struct {
		machine        string
		limits         api.TapLimits
		state, contact int
		want           api.Errno
	}{
		{late, usual(), 3, 0, api.OK},
		{late, usual(), 2, 2, api.OK},
		{late, usual(), 6, 1, api.OK},
		{late, usual(), 4, 3, api.OK},
		{early, usual(), 6, 3, api.ErrBreak}, // 6 circulates
		{late, usual(), 6, 3, api.ErrAllowed},
		{late, usual(), 3, 1, api.ErrAllowed},
		{late, usual(), 0, 1, api.ErrAllowed}, // before ErrOpen
		{late, usual(), 9, 1, api.ErrAllowed}, // before ErrClash
		{bare, usual(), 3, 0, api.ErrAllowed},
		{late, limits(span(0, 10), 4, 9, 30), 3, 0, api.ErrBreak},
		{late, limits(span(0, 10), 4, 10, 20), 3, 0, api.OK},
		{late, limits(span(0, 10), 4, 10, 19), 3, 0, api.ErrRefused},
		{late, limits(span(0, 10), 4, 9, 19), 3, 0, api.ErrBreak},
		{late, limits(span(-10, 0), 4, 9, 30), 3, 0, api.ErrBreak},
		{late, limits(span(-10, 0), 4, 10, 19), 3, 0, api.ErrRefused},
		{late, limits(span(-10, 10), 4, 10, 20), 3, 0, api.OK},
		{late, limits(span(6, 12), 4, 10, 10), 3, 0, api.ErrRefused}, // the lower end, before the current at the upper one
		{late, limits(span(-12, 6), 4, 10, 10), 3, 0, api.ErrBreak},
		{late, limits(span(0, 10), 3, 3, 12), 6, 1, api.OK}, // the current 3 at the load 0, 2 at 10
		{late, limits(span(0, 10), 3, 2, 12), 6, 1, api.ErrBreak},
		{late, limits(span(1, 10), 3, 2, 12), 6, 1, api.ErrBreak}, // 5/2
		{late, limits(span(2, 10), 3, 2, 8), 6, 1, api.OK},
		{late, limits(span(2, 11), 3, 2, 12), 6, 1, api.ErrBreak},
		{late, limits(span(2, 10), 3, 2, 7), 6, 1, api.ErrRefused},
		{late, limits(span(0, 10), 0, 0, 0), 4, 3, api.OK}, // nothing breaks that closes
		{late, limits(span(0, 10), 2, 10, 30), 2, 2, api.ErrBreak},
		{late, limits(span(0, 10), 2, 10, 30), 6, 1, api.OK}, // only the state afterwards is asked to be safe
		{late, limits(span(0, 10), 2, 9, 30), 3, 0, api.ErrBreak},
		{"1 t0r1 -0/0/0", wide(), 1, 0, api.ErrOpen},
		{"1 t0r1 +0/0/0", wide(), 0, 0, api.ErrOpen}, // before, but not after
		{"1 t0r0 t1r0 +1/0/0", wide(), 1, 1, api.ErrClash},
		{"1 t0r0 t0r0 +1/0/0", wide(), 1, 1, api.ErrDouble},
		{"1 t0r0 t1r0 -1/0/0", wide(), 3, 1, api.ErrClash},
		{"1 t0r0 t0r0 -1/0/0", wide(), 3, 1, api.ErrDouble},
		{"1 t0r0 t0r0 t1r0 -2/0/0", wide(), 7, 2, api.ErrClash}, // double afterwards
		{"1 t0r0 t0r0 t1r0 +2/0/0", wide(), 3, 2, api.ErrDouble},
	} {
		if e := tap.CheckMove(machine(t, x.machine), x.limits, x.state, x.contact); e != x.want {
			t.Error(x, e)
		}
	}
}

// limits returns limits with the voltage 12.
func limits(load api.Range, circulating, current, voltage int) api.TapLimits {
	return api.TapLimits{Voltage: 12, Load: load, Circulating: circulating, Break: current, Return: voltage}
}

// P6.4: the errors of the machine, the limits, the state and the contact.
func TestCheckMoveErrors(t *testing.T) {
	m := machine(t, late)
	for _, x := range [][2]int{{3, 0}, {3, 1}, {-1, -1}, {3, -1}} {
		refuseMachines(t, "CheckMove", func(m api.TapMachine) (bool, api.Errno) {
			return true, tap.CheckMove(m, usual(), x[0], x[1])
		})
		refuseMachines(t, "CheckMove", func(m api.TapMachine) (bool, api.Errno) {
			return true, tap.CheckMove(m, api.TapLimits{Voltage: -1}, x[0], x[1])
		})
		refuseLimits(t, "CheckMove", func(l api.TapLimits) (bool, api.Errno) {
			return true, tap.CheckMove(m, l, x[0], x[1])
		})
	}
	for _, state := range badStates() {
		for _, contact := range []int{0, -1, 4} {
			if e := tap.CheckMove(m, usual(), state, contact); e != api.ErrRange {
				t.Error(state, contact, e)
			}
		}
	}
	for _, contact := range badContacts() {
		for _, state := range []int{3, 0, 9} {
			if e := tap.CheckMove(m, usual(), state, contact); e != api.ErrMissing {
				t.Error(state, contact, e)
			}
		}
	}
}

// P6.4: the errors of all states and changes of all sorts of machines.
func TestSafety(t *testing.T) {
	r := numbers(6)
	seen := map[api.Errno]int{}
	for range 1500 {
		m, l := randomMachine(&r, 10), randomLimits(&r, []int{10, 100, 1000}[r.below(3)])
		for state := range 1 << len(m.Branches) {
			if e, want := tap.CheckState(m, l, state), safeBy(m, l, state); e != want {
				t.Fatal(tap.FormatMachine(m), l, state, e, want)
			}
			for contact := range m.Branches {
				e, want := tap.CheckMove(m, l, state, contact), moveBy(m, l, state, contact)
				seen[want]++
				if e != want {
					t.Fatal(tap.FormatMachine(m), l, state, contact, e, want)
				}
			}
		}
	}
	for _, e := range []api.Errno{api.OK, api.ErrAllowed, api.ErrOpen, api.ErrClash, api.ErrDouble, api.ErrBreak, api.ErrRefused} {
		if seen[e] < 100 {
			t.Error(e, seen[e])
		}
	}
}

// P6.12: a change that is safe is so for every load in the range.
func TestBetweenTheLoads(t *testing.T) {
	r := numbers(7)
	opened := 0
	for range 1000 {
		m, l := randomMachine(&r, 10), randomLimits(&r, 30)
		for state := range 1 << len(m.Branches) {
			for contact := range m.Branches {
				if tap.CheckMove(m, l, state, contact) != api.OK {
					continue
				}
				for load := l.Load.Lo; load <= l.Load.Hi; load++ {
					single := l
					single.Load = span(load, load)
					if e := tap.CheckMove(m, single, state, contact); e != api.OK {
						t.Fatal(tap.FormatMachine(m), l, state, contact, load, e)
					}
					b, e := tap.BreakAt(m, l, state, contact, load)
					if e == api.ErrState {
						continue
					}
					opened++
					if e != api.OK || above(ratOf(b.Current), l.Break) || above(ratOf(b.Voltage), l.Return) {
						t.Fatal(tap.FormatMachine(m), l, state, contact, load, b, e)
					}
				}
			}
		}
	}
	if opened < 1000 {
		t.Error(opened)
	}
}
