package tap_test

import (
	"math/big"
	"slices"
	"testing"

	"buchholz/api"
	"buchholz/tap"
)

// P6.2: the first and the second example, and states with one contact.
func TestCurrents(t *testing.T) {
	for _, x := range []struct {
		machine     string
		state, load int
		currents    []api.Frac
		output      api.Frac
	}{
		{bare, 6, 0, fracs(0, 1, -3, 1, 3, 1, 0, 1), frac(6, 1)},
		{bare, 6, 10, fracs(0, 1, 2, 1, 8, 1, 0, 1), frac(-4, 1)},
		{bare, 6, -1, fracs(0, 1, -7, 2, 5, 2, 0, 1), frac(7, 1)},
		{bare, 3, 10, fracs(10, 1, 0, 1, 0, 1, 0, 1), frac(0, 1)},
		{bare, 2, 10, fracs(0, 1, 10, 1, 0, 1, 0, 1), frac(-20, 1)},
		{bare, 1, 7, fracs(7, 1, 0, 1, 0, 1, 0, 1), frac(0, 1)},
		{bare, 8, -7, fracs(0, 1, 0, 1, 0, 1, -7, 1), frac(12, 1)},
		{bare, 5, 0, fracs(-6, 1, 0, 1, 6, 1, 0, 1), frac(0, 1)},
		{bare, 14, 10, fracs(0, 1, -6, 1, 0, 1, 16, 1), frac(12, 1)},
		{bare, 4, 1000, fracs(0, 1, 0, 1, 1000, 1, 0, 1), frac(-1988, 1)},
		{"0 t0r3 t1r2 t1r6", 7, 0, fracs(-8, 3, 2, 1, 2, 3), frac(8, 1)},
		{"0 t0r3 t1r2 t1r6", 3, 1, fracs(-2, 1, 3, 1, 0, 1), frac(6, 1)},
		{"0 t0r3 t1r4", 3, 0, fracs(-12, 7, 12, 7), frac(36, 7)},
		{"0 t0r10", 1, 1, fracs(1, 1), frac(-10, 1)},
	} {
		m := machine(t, x.machine)
		if l, e := tap.CurrentsIn(m, usual(), x.state, x.load); e != api.OK || !slices.Equal(l, x.currents) {
			t.Error(x, l, e)
		}
		if u, e := tap.OutputIn(m, usual(), x.state, x.load); e != api.OK || u != x.output {
			t.Error(x, u, e)
		}
	}
}

// P6.2: the circulating current: nothing circulates through one contact, between contacts of one tap, or without a voltage.
func TestCirculatingIn(t *testing.T) {
	for _, x := range []struct {
		machine        string
		voltage, state int
		want           api.Frac
	}{
		{bare, 12, 6, frac(3, 1)},
		{bare, 12, 14, frac(6, 1)},
		{bare, 12, 7, frac(6, 1)},
		{bare, 12, 5, frac(6, 1)},
		{bare, 12, 3, frac(0, 1)},
		{bare, 12, 12, frac(0, 1)},
		{bare, 12, 1, frac(0, 1)},
		{bare, 12, 4, frac(0, 1)},
		{bare, 12, 8, frac(0, 1)},
		{bare, 1000, 8, frac(0, 1)},
		{bare, 1, 6, frac(1, 4)},
		{bare, 0, 6, frac(0, 1)},
		{bare, 0, 14, frac(0, 1)},
		{"0 t1r0 t0r3 t0r6", 12, 7, frac(6, 1)},
		{"0 t1r1 t0r3 t0r6 t1r2", 12, 15, frac(9, 2)},
		{"0 t1r3 t0r4", 1, 3, frac(1, 7)},
	} {
		l := usual()
		l.Voltage = x.voltage
		if f, e := tap.CirculatingIn(machine(t, x.machine), l, x.state); f != x.want || e != api.OK {
			t.Error(x, f, e)
		}
	}
}

// unknown returns states in which currents are not determined, by machines.
func unknown() map[string]map[int]api.Errno {
	return map[string]map[int]api.Errno{
		bare: {0: api.ErrOpen, 9: api.ErrClash, 11: api.ErrClash, 13: api.ErrClash, 15: api.ErrClash},
		"1 t0r0 t0r0 t1r0 t1r1": {
			0: api.ErrOpen, 3: api.ErrDouble, 11: api.ErrDouble,
			5: api.ErrClash, 7: api.ErrClash, 6: api.ErrClash, 14: api.ErrClash, 15: api.ErrClash,
		},
		"1 t1r0 t1r0 t1r0 t0r1": {0: api.ErrOpen, 3: api.ErrDouble, 7: api.ErrDouble, 15: api.ErrDouble, 6: api.ErrDouble},
	}
}

// P6.2: the errors of the machine, the limits, the state and the load; then the error of currents, with no voltage, too.
func TestCurrentsErrors(t *testing.T) {
	check := func(m api.TapMachine, l api.TapLimits, state, load int, want api.Errno) {
		t.Helper()
		if c, e := tap.CurrentsIn(m, l, state, load); c != nil || e != want {
			t.Error(m, l, state, load, c, e)
		}
		if u, e := tap.OutputIn(m, l, state, load); u != (api.Frac{}) || e != want {
			t.Error(m, l, state, load, u, e)
		}
	}
	circulating := func(m api.TapMachine, l api.TapLimits, state int, want api.Errno) {
		t.Helper()
		if u, e := tap.CirculatingIn(m, l, state); u != (api.Frac{}) || e != want {
			t.Error(m, l, state, u, e)
		}
	}
	m := machine(t, late)
	for _, x := range badMachines() {
		bad := machine(t, late)
		x.change(&bad)
		check(bad, usual(), 6, 0, x.want)
		check(bad, api.TapLimits{Voltage: -1}, -1, least, x.want)
		circulating(bad, usual(), 6, x.want)
		circulating(bad, api.TapLimits{Voltage: -1}, -1, x.want)
	}
	for l, want := range badLimits() {
		check(m, l, 6, 0, want)
		check(m, l, -1, least, want)
		circulating(m, l, 6, want)
		circulating(m, l, -1, want)
	}
	for _, state := range badStates() {
		check(m, usual(), state, 0, api.ErrRange)
		check(m, usual(), state, least, api.ErrRange)
		circulating(m, usual(), state, api.ErrRange)
	}
	for _, load := range []int{1001, -1001, least, greatest} {
		check(m, usual(), 6, load, api.ErrRange)
		check(m, usual(), 0, load, api.ErrRange)
		check(m, usual(), 9, load, api.ErrRange)
	}
	for s, states := range unknown() {
		for state, want := range states {
			for _, voltage := range []int{0, 12} {
				l := usual()
				l.Voltage = voltage
				check(machine(t, s), l, state, 1000, want)
				check(machine(t, s), l, state, -1000, want)
				circulating(machine(t, s), l, state, want)
			}
		}
	}
}

// isRats returns whether fractions are these numbers.
func isRats(l []api.Frac, want []*big.Rat) bool {
	return slices.EqualFunc(l, want, isRat)
}

// P6.2: currents, outputs and circulating currents in all states of all sorts of machines.
func TestAllCurrents(t *testing.T) {
	r := numbers(3)
	seen := map[api.Errno]int{}
	for range 1500 {
		m, l := randomMachine(&r, []int{2, 10}[r.below(2)]), randomLimits(&r, []int{10, 1000}[r.below(2)])
		for state := range 1 << len(m.Branches) {
			load, want := r.from(-1000, 1000), knownBy(m, state)
			seen[want]++
			c, e := tap.CurrentsIn(m, l, state, load)
			u, f := tap.OutputIn(m, l, state, load)
			x, g := tap.CirculatingIn(m, l, state)
			if e != want || f != want || g != want {
				t.Fatal(tap.FormatMachine(m), state, e, f, g, want)
			}
			if want != api.OK {
				continue
			}
			if !isRats(c, currentsBy(m, l, state, load)) || !isRat(u, outputBy(m, l, state, load)) || !isRat(x, circulatingBy(m, l, state)) {
				t.Fatal(tap.FormatMachine(m), l, state, load, c, u, x)
			}
		}
	}
	for _, e := range []api.Errno{api.OK, api.ErrOpen, api.ErrClash, api.ErrDouble} {
		if seen[e] < 1000 {
			t.Error(e, seen[e])
		}
	}
}

// ratOf returns the number of a fraction.
func ratOf(f api.Frac) *big.Rat {
	return rat(f.Num, f.Den)
}

// P6.10: the currents of all contacts add up to the load, open ones have none, and all closed ones with resistances have the same output.
func TestNoCurrentIsLost(t *testing.T) {
	r := numbers(4)
	for range 500 {
		m, l, load := randomMachine(&r, 10), randomLimits(&r, 1000), r.from(-1000, 1000)
		for state := range 1 << len(m.Branches) {
			c, e := tap.CurrentsIn(m, l, state, load)
			if e != api.OK {
				continue
			}
			output, _ := tap.OutputIn(m, l, state, load)
			closed, sum := closedIn(m, state), new(big.Rat)
			for i, b := range m.Branches {
				sum = plus(sum, ratOf(c[i]))
				if !slices.Contains(closed, i) {
					if c[i] != frac(0, 1) {
						t.Fatal(m, state, i, c)
					}
					continue
				}
				drop := times(ratOf(c[i]), whole(b.Resistance))
				if minus(voltageOf(m, l, i), drop).Cmp(ratOf(output)) != 0 {
					t.Fatal(m, l, state, load, c, output)
				}
			}
			if sum.Cmp(whole(load)) != 0 {
				t.Fatal(m, l, state, load, c)
			}
		}
	}
}

// P6.3: the third example, and breaks without a current.
func TestBreakAt(t *testing.T) {
	for _, x := range []struct {
		machine              string
		state, contact, load int
		current, voltage     api.Frac
	}{
		{bare, 3, 0, 10, frac(10, 1), frac(20, 1)},
		{bare, 6, 1, 10, frac(2, 1), frac(8, 1)},
		{bare, 6, 1, 0, frac(3, 1), frac(12, 1)},
		{bare, 6, 1, 6, frac(0, 1), frac(0, 1)},
		{bare, 6, 1, 5, frac(1, 2), frac(2, 1)},
		{bare, 6, 2, 0, frac(3, 1), frac(12, 1)},
		{bare, 6, 2, -10, frac(2, 1), frac(8, 1)},
		{bare, 3, 1, 10, frac(0, 1), frac(0, 1)},
		{bare, 3, 0, -10, frac(10, 1), frac(20, 1)},
		{bare, 14, 3, 1000, frac(1006, 1), frac(1006, 1)}, // no limit is asked
		{bare, 14, 2, 1000, frac(0, 1), frac(0, 1)},
		{bare, 14, 1, 0, frac(6, 1), frac(12, 1)},
		{"0 t0r3 t1r4 t1r1", 7, 0, 0, frac(60, 19), frac(12, 1)},
		{"0 t0r3 t1r4 t1r1", 7, 2, 1, frac(60, 19), frac(60, 7)},
	} {
		want := api.TapBreak{Current: x.current, Voltage: x.voltage}
		if b, e := tap.BreakAt(machine(t, x.machine), usual(), x.state, x.contact, x.load); b != want || e != api.OK {
			t.Error(x, b, e)
		}
	}
}

// badContacts returns numbers that are not contacts of four.
func badContacts() []int {
	return []int{-1, 4, 6, least, greatest}
}

// P6.3: the errors of the machine, the limits, the state, the contact and the load; an open contact; the currents before and after.
func TestBreakAtErrors(t *testing.T) {
	check := func(m api.TapMachine, l api.TapLimits, state, contact, load int, want api.Errno) {
		t.Helper()
		if b, e := tap.BreakAt(m, l, state, contact, load); b != (api.TapBreak{}) || e != want {
			t.Error(m, l, state, contact, load, b, e, want)
		}
	}
	m := machine(t, late)
	for _, x := range badMachines() {
		bad := machine(t, late)
		x.change(&bad)
		check(bad, usual(), 6, 1, 0, x.want)
		check(bad, api.TapLimits{Voltage: -1}, -1, -1, least, x.want)
	}
	for l, want := range badLimits() {
		check(m, l, 6, 1, 0, want)
		check(m, l, -1, -1, least, want)
	}
	for _, state := range badStates() {
		check(m, usual(), state, 1, 0, api.ErrRange)
		check(m, usual(), state, -1, least, api.ErrRange)
	}
	for _, contact := range badContacts() {
		check(m, usual(), 6, contact, 0, api.ErrMissing)
		check(m, usual(), 0, contact, least, api.ErrMissing)
	}
	for _, load := range []int{1001, -1001, least, greatest} {
		check(m, usual(), 6, 1, load, api.ErrRange)
		check(m, usual(), 6, 0, load, api.ErrRange)
		check(m, usual(), 9, 0, load, api.ErrRange)
	}
	for _, x := range []struct {
		machine        string
		state, contact int
		want           api.Errno
	}{
		{bare, 6, 0, api.ErrState},
		{bare, 6, 3, api.ErrState},
		{bare, 0, 3, api.ErrState}, // before ErrOpen
		{bare, 9, 1, api.ErrState}, // before ErrClash
		{bare, 9, 0, api.ErrClash}, // before, but not after
		{bare, 11, 1, api.ErrClash},
		{bare, 1, 0, api.ErrOpen}, // after
		{bare, 4, 2, api.ErrOpen},
		{"0 t0r0 t0r0 t1r0", 3, 0, api.ErrDouble},
		{"0 t0r0 t0r0 t1r0", 7, 0, api.ErrClash},
		{"0 t0r0 t0r0 t1r0", 7, 2, api.ErrClash}, // double afterwards
	} {
		check(machine(t, x.machine), usual(), x.state, x.contact, 0, x.want)
	}
}

// P6.3: what all contacts break in all states of all sorts of machines.
func TestBreaks(t *testing.T) {
	r := numbers(5)
	for range 500 {
		m, l, load := randomMachine(&r, 10), randomLimits(&r, 1000), r.from(-1000, 1000)
		for state := range 1 << len(m.Branches) {
			for _, i := range closedIn(m, state) {
				next := after(m, state, i)
				want := knownBy(m, state)
				if want == api.OK {
					want = knownBy(m, next)
				}
				b, e := tap.BreakAt(m, l, state, i, load)
				if e != want {
					t.Fatal(tap.FormatMachine(m), state, i, e, want)
				}
				if e != api.OK {
					continue
				}
				current := size(currentsBy(m, l, state, load)[i])
				voltage := size(minus(voltageOf(m, l, i), outputBy(m, l, next, load)))
				if !isRat(b.Current, current) || !isRat(b.Voltage, voltage) {
					t.Fatal(tap.FormatMachine(m), l, state, i, load, b)
				}
			}
		}
	}
}
