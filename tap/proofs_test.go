package tap_test

import (
	"slices"
	"testing"

	"buchholz/api"
	"buchholz/tap"
)

// P6.6: the fourth and the fifth example, and others.
func TestFailureOf(t *testing.T) {
	for _, x := range []struct {
		machine string
		limits  api.TapLimits
		failure []int
		want    api.Errno
	}{
		{early, usual(), []int{0, 2, 3}, api.OK},
		{late, usual(), nil, api.ErrNone},
		{late, limits(span(0, 10), 4, 9, 30), []int{0}, api.OK},
		{late, limits(span(0, 10), 4, 10, 19), []int{0}, api.OK},
		{late, limits(span(0, 10), 2, 10, 30), []int{0, 2}, api.OK},
		{late, limits(span(-1, 10), 4, 10, 30), nil, api.ErrNone},
		{late, limits(span(10, 11), 4, 11, 30), nil, api.ErrNone},
		{late, limits(span(10, 10), 0, 10, 30), []int{0, 2}, api.OK},
		{bare, usual(), nil, api.ErrNone},                               // without guards it stays in Start
		{"0 t0r0", usual(), nil, api.OK},                                // Start is open
		{"3 t0r0 t1r0", usual(), nil, api.OK},                           // Start is short
		{"3 t0r0 t0r0 -0/0/0", usual(), nil, api.OK},                    // Start is double
		{"3 t0r1 t1r1 -0/0/0", usual(), nil, api.OK},                    // 6 circulates in Start
		{"1 t0r1 -0/0/0", usual(), []int{0}, api.OK},                    // it opens
		{"1 t0r1 t0r0 t0r0 +1/0/0 +2/0/0", wide(), []int{1, 2}, api.OK}, // double, before 2, 1
		{"1 t0r1 t0r0 t0r0 +2/0/0 +1/0/0", wide(), []int{1, 2}, api.OK}, // whatever the order of the guards is
		{"1 t0r1 t0r0 t0r0 t0r1 +1/8/0 +2/0/0 +3/0/0 -2/0/0", wide(), []int{2, 3, 1}, api.OK},
		{"1 t0r1 t0r1 t0r1 t0r1 t0r0 t0r0 +1/0/4 +2/0/2 +4/2/0 +5/16/0 +3/4/0 +5/8/0 +4/32/0", wide(), []int{1, 4, 5}, api.OK},
	} {
		if l, e := tap.FailureOf(machine(t, x.machine), x.limits); e != x.want || !slices.Equal(l, x.failure) {
			t.Error(x, l, e)
		}
	}
}

// P6.6: the fourth example, and others.
func TestInvariantOf(t *testing.T) {
	for _, x := range []struct {
		machine string
		limits  api.TapLimits
		states  []int
		want    api.Errno
	}{
		{late, usual(), []int{2, 3, 4, 6, 12}, api.OK},
		{early, usual(), nil, api.ErrNone},
		{late, limits(span(0, 10), 4, 9, 30), nil, api.ErrNone},
		{early, limits(span(0, 10), 6, 10, 30), []int{2, 3, 4, 6, 12, 14}, api.OK},
		{bare, usual(), []int{3}, api.OK},
		{"0 t0r0", usual(), nil, api.ErrNone},
		{"1 t0r1 -0/0/0", usual(), nil, api.ErrNone},
		{"1 t0r1 t0r1 +1/0/0 -1/0/0", wide(), []int{1, 3}, api.OK},
	} {
		if l, e := tap.InvariantOf(machine(t, x.machine), x.limits); e != x.want || !slices.Equal(l, x.states) {
			t.Error(x, l, e)
		}
	}
}

// P6.5, P6.6: the errors of the machine, then of the limits.
func TestProofErrors(t *testing.T) {
	m := machine(t, late)
	for name, call := range map[string]func(api.TapMachine, api.TapLimits) (bool, api.Errno){
		"FailureOf": func(m api.TapMachine, l api.TapLimits) (bool, api.Errno) {
			x, e := tap.FailureOf(m, l)
			return x == nil, e
		},
		"InvariantOf": func(m api.TapMachine, l api.TapLimits) (bool, api.Errno) {
			x, e := tap.InvariantOf(m, l)
			return x == nil, e
		},
		"CheckInvariant": func(m api.TapMachine, l api.TapLimits) (bool, api.Errno) {
			i, e := tap.CheckInvariant(m, l, []int{2, 3, 4, 6, 12})
			return i == 0, e
		},
		"CheckInvariant, wrong states": func(m api.TapMachine, l api.TapLimits) (bool, api.Errno) {
			i, e := tap.CheckInvariant(m, l, []int{2, -1})
			return i == 0, e
		},
		"RunOf": func(m api.TapMachine, l api.TapLimits) (bool, api.Errno) {
			x, i, e := tap.RunOf(m, l, []int{0})
			return x == nil && i == 0, e
		},
		"RunOf, a wrong run": func(m api.TapMachine, l api.TapLimits) (bool, api.Errno) {
			x, i, e := tap.RunOf(m, l, slices.Repeat([]int{-1}, 41))
			return x == nil && i == 0, e
		},
		"WearOf": func(m api.TapMachine, l api.TapLimits) (bool, api.Errno) {
			x, i, e := tap.WearOf(m, l, []int{0}, 10)
			return x == nil && i == 0, e
		},
		"WearOf, a wrong run and load": func(m api.TapMachine, l api.TapLimits) (bool, api.Errno) {
			x, i, e := tap.WearOf(m, l, slices.Repeat([]int{-1}, 41), least)
			return x == nil && i == 0, e
		},
	} {
		refuseMachines(t, name, func(m api.TapMachine) (bool, api.Errno) { return call(m, usual()) })
		refuseMachines(t, name, func(m api.TapMachine) (bool, api.Errno) { return call(m, api.TapLimits{Voltage: -1}) })
		refuseLimits(t, name, func(l api.TapLimits) (bool, api.Errno) { return call(m, l) })
	}
}

// P6.6: invariants, and sets that are not.
func TestCheckInvariant(t *testing.T) {
	const two = "1 t0r1 t0r1 t1r0 t1r0 +1/0/0 +2/0/0 -2/0/0" // the contact 3 never changes
	for _, x := range []struct {
		machine string
		limits  api.TapLimits
		states  []int
		index   int
		want    api.Errno
	}{
		{late, usual(), []int{2, 3, 4, 6, 12}, 0, api.OK},
		{late, usual(), []int{2, 3, 4, 6, 8, 12}, 0, api.OK}, // not the smallest one
		{bare, usual(), []int{3}, 0, api.OK},
		{bare, usual(), []int{1, 2, 3, 4, 6, 8, 12}, 0, api.OK},
		{late, usual(), nil, 0, api.ErrMissing},
		{late, usual(), []int{}, 0, api.ErrMissing},
		{late, usual(), []int{2, 4, 6, 12}, 0, api.ErrMissing},
		{late, usual(), []int{3}, 0, api.ErrGap},
		{late, usual(), []int{3, 4, 6, 12}, 0, api.ErrGap},
		{late, usual(), []int{2, 3, 4, 12}, 0, api.ErrGap},
		{late, usual(), []int{2, 3, 4, 6}, 2, api.ErrGap},
		{late, usual(), []int{2, 3, 6, 12}, 2, api.ErrGap},
		{late, usual(), []int{-1, 2, 3, 4, 6, 12}, 0, api.ErrRange},
		{late, usual(), []int{2, 3, 4, 6, 12, 16}, 5, api.ErrRange},
		{late, usual(), []int{2, 3, 4, 6, 12, least}, 5, api.ErrRange}, // before ErrOrder
		{late, usual(), []int{2, 3, 4, 6, greatest}, 2, api.ErrGap},
		{late, usual(), []int{16, 3}, 0, api.ErrRange},
		{late, usual(), []int{3, 2, 4, 6, 12}, 1, api.ErrOrder},
		{late, usual(), []int{2, 2, 3, 4, 6, 12}, 1, api.ErrOrder},
		{late, usual(), []int{2, 3, 4, 6, 12, 12}, 5, api.ErrOrder},
		{late, usual(), []int{2, 6, 3, 4, 12}, 2, api.ErrOrder},
		{late, usual(), []int{2, 3, 4, 6, 12, 0}, 5, api.ErrOrder}, // before ErrOpen
		{late, usual(), []int{0, 2, 3, 4, 6, 12}, 0, api.ErrOpen},
		{late, usual(), []int{2, 3, 4, 6, 9, 12}, 4, api.ErrClash},
		{late, usual(), []int{2, 3, 4, 6, 7, 12}, 4, api.ErrBreak}, // 6 circulates
		{late, usual(), slices.Repeat([]int{12}, 100000), 1, api.ErrOrder},
		{early, usual(), []int{2, 3, 4, 6, 12}, 3, api.ErrBreak},
		{early, usual(), []int{2, 3, 4, 6, 12, 14}, 3, api.ErrBreak},
		{early, limits(span(0, 10), 6, 10, 30), []int{2, 3, 4, 6, 12}, 3, api.ErrGap},
		{late, limits(span(0, 10), 4, 9, 30), []int{2, 3, 4, 6, 12}, 1, api.ErrBreak},
		{late, limits(span(0, 10), 4, 9, 30), []int{3}, 0, api.ErrBreak}, // before the gap
		{late, limits(span(0, 10), 4, 10, 19), []int{2, 3, 4, 6, 12}, 1, api.ErrRefused},
		{two, wide(), []int{1, 3, 5, 7}, 0, api.OK},
		{two, wide(), []int{1, 5}, 0, api.ErrGap},
		{two, wide(), []int{1, 3}, 0, api.ErrGap},
		{two, wide(), []int{1, 3, 5, 7, 12}, 4, api.ErrDouble},
		{two, limits(span(0, 0), 1, 10, 30), []int{1, 5}, 0, api.ErrGap},         // the contact 1 comes before
		{two, limits(span(0, 0), 1, 10, 30), []int{1, 3}, 0, api.ErrBreak},       // the contact 2, by which 12 circulates
		{two, limits(span(0, 0), 1, 10, 30), []int{1, 3, 5, 7}, 0, api.ErrBreak}, // before the state 5 itself
	} {
		if i, e := tap.CheckInvariant(machine(t, x.machine), x.limits, x.states); i != x.index || e != x.want {
			t.Error(x.machine, x.limits, x.states[:min(8, len(x.states))], i, e, x.index, x.want)
		}
	}
}

// never stands for more changes than a failure can have.
const never = 1000

// failureBy returns the first failure, by how many changes the shortest failure needs from each state on.
func failureBy(m api.TapMachine, l api.TapLimits) ([]int, bool) {
	if safeBy(m, l, m.Start) != api.OK {
		return nil, true
	}
	states := 1 << len(m.Branches)
	needs := slices.Repeat([]int{never}, states)
	errors := map[[2]int]api.Errno{}
	for state := range states {
		for contact := range m.Branches {
			errors[[2]int{state, contact}] = moveBy(m, l, state, contact)
		}
	}
	through := func(state, contact int) int { // how many changes a failure that begins with this one has
		switch errors[[2]int{state, contact}] {
		case api.ErrAllowed:
			return never
		case api.OK:
			return min(needs[after(m, state, contact)]+1, never)
		}
		return 1
	}
	for range states {
		for state := range states {
			for contact := range m.Branches {
				needs[state] = min(needs[state], through(state, contact))
			}
		}
	}
	var run []int
	state := m.Start
	for n := needs[state]; n > 0 && n < never; n-- {
		contact := 0
		for through(state, contact) != n {
			contact++
		}
		run = append(run, contact)
		state = after(m, state, contact)
	}
	return run, len(run) > 0
}

// P6.6, P6.11, P6.13: a first failure, or the states that are reached, of all sorts of machines.
func TestFailuresAndInvariants(t *testing.T) {
	r := numbers(8)
	failures, longest, largest := 0, 0, 0
	for range 3000 {
		m, l := provable(&r)
		want, fails := failureBy(m, l)
		run, e := tap.FailureOf(m, l)
		states, f := tap.InvariantOf(m, l)
		if fails {
			failures++
			longest = max(longest, len(want))
			if e != api.OK || !slices.Equal(run, want) || f != api.ErrNone || states != nil {
				t.Fatal(tap.FormatMachine(m), l, run, e, states, f, want)
			}
			continue
		}
		largest = max(largest, len(states))
		if e != api.ErrNone || run != nil || f != api.OK || !slices.Equal(states, reachedBy(m)) {
			t.Fatal(tap.FormatMachine(m), l, run, e, states, f)
		}
	}
	if failures < 1000 || failures > 2000 || longest < 7 || largest < 16 {
		t.Error(failures, longest, largest)
	}
}

// provable returns a machine and limits that often have an invariant, or a long failure.
func provable(r *numbers) (api.TapMachine, api.TapLimits) {
	m := randomMachine(r, 10)
	if r.below(2) == 0 {
		return m, randomLimits(r, 1000)
	}
	for i := range m.Branches {
		m.Branches[i].Resistance = max(1, m.Branches[i].Resistance)
	}
	m.Start |= 1
	l := api.TapLimits{Voltage: r.from(1, 100), Load: r.between(-50, 50), Circulating: r.from(10, 200), Break: r.from(50, 150), Return: r.from(200, 800)}
	return m, l
}

// P6.11: if there is an invariant, no permitted change of a run is refused.
func TestNeverBroken(t *testing.T) {
	r := numbers(9)
	runs := 0
	for range 2000 {
		m, l := provable(&r)
		states, e := tap.InvariantOf(m, l)
		if e != api.OK {
			continue
		}
		state := m.Start
		var run []int
		for len(run) < 40 {
			contacts, _ := tap.MovesIn(m, state)
			if len(contacts) == 0 {
				break
			}
			contact := contacts[r.below(len(contacts))]
			run = append(run, contact)
			state = after(m, state, contact)
		}
		passed, i, e := tap.RunOf(m, l, run)
		if i != 0 || e != api.OK || passed[len(run)] != state {
			t.Fatal(tap.FormatMachine(m), l, run, passed, i, e)
		}
		for _, s := range passed {
			if e := tap.CheckState(m, l, s); e != api.OK || !slices.Contains(states, s) {
				t.Fatal(tap.FormatMachine(m), l, run, s, e)
			}
		}
		if len(run) > 5 {
			runs++
		}
	}
	if runs < 50 {
		t.Error(runs)
	}
}

// P6.11: a failure is a run whose last change alone is refused.
func TestFailuresFail(t *testing.T) {
	r := numbers(10)
	for range 2000 {
		m, l := provable(&r)
		run, e := tap.FailureOf(m, l)
		if e != api.OK {
			continue
		}
		_, i, e := tap.RunOf(m, l, run)
		if e == api.OK || i != max(0, len(run)-1) {
			t.Fatal(tap.FormatMachine(m), l, run, i, e)
		}
		if len(run) == 0 {
			continue
		}
		states, i, f := tap.RunOf(m, l, run[:len(run)-1])
		if i != 0 || f != api.OK || !mayBy(m, states[len(states)-1], run[len(run)-1]) {
			t.Fatal(tap.FormatMachine(m), l, run, states, i, f)
		}
	}
}

// invariantBy returns what CheckInvariant says of states that are states of the machine.
func invariantBy(m api.TapMachine, l api.TapLimits, states []int) (int, api.Errno) {
	for i, state := range states {
		if i > 0 && state <= states[i-1] {
			return i, api.ErrOrder
		}
		if e := safeBy(m, l, state); e != api.OK {
			return i, e
		}
		for contact := range m.Branches {
			if !mayBy(m, state, contact) {
				continue
			}
			if e := moveBy(m, l, state, contact); e != api.OK {
				return i, e
			}
			if !slices.Contains(states, after(m, state, contact)) {
				return i, api.ErrGap
			}
		}
	}
	if !slices.Contains(states, m.Start) {
		return 0, api.ErrMissing
	}
	return 0, api.OK
}

// P6.13: CheckInvariant accepts the states of Reachable, but no part of them; and other sets as they are.
func TestTheSmallest(t *testing.T) {
	r := numbers(11)
	seen := map[api.Errno]int{}
	for range 2000 {
		m, l := provable(&r)
		states, e := tap.InvariantOf(m, l)
		if e == api.OK {
			if i, e := tap.CheckInvariant(m, l, states); i != 0 || e != api.OK {
				t.Fatal(tap.FormatMachine(m), l, states, i, e)
			}
			for k := range states {
				part := slices.Delete(slices.Clone(states), k, k+1)
				if i, e := tap.CheckInvariant(m, l, part); e != api.ErrGap && e != api.ErrMissing {
					t.Fatal(tap.FormatMachine(m), l, part, i, e)
				}
			}
		}
		others := slices.Clone(states)
		for range r.from(0, 3) {
			others = append(others, r.below(1<<len(m.Branches)))
		}
		if r.below(4) > 0 {
			slices.Sort(others)
		}
		index, want := invariantBy(m, l, others)
		seen[want]++
		if i, e := tap.CheckInvariant(m, l, others); i != index || e != want {
			t.Fatal(tap.FormatMachine(m), l, others, i, e, index, want)
		}
	}
	for _, e := range []api.Errno{api.OK, api.ErrOrder, api.ErrOpen, api.ErrBreak, api.ErrRefused, api.ErrGap, api.ErrMissing} {
		if seen[e] < 10 {
			t.Error(e, seen[e])
		}
	}
}
