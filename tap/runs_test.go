package tap_test

import (
	"math/big"
	"slices"
	"testing"

	"buchholz/api"
	"buchholz/tap"
)

// swing is a machine whose second contact may always change.
const swing = "1 t0r1 t0r1 +1/0/0 -1/0/0"

// P6.5: runs, up to 40 changes, and the first change that is refused.
func TestRunOf(t *testing.T) {
	for _, x := range []struct {
		machine string
		limits  api.TapLimits
		run     []int
		states  []int
		index   int
		want    api.Errno
	}{
		{late, usual(), nil, []int{3}, 0, api.OK},
		{late, usual(), []int{}, []int{3}, 0, api.OK},
		{late, usual(), []int{0}, []int{3, 2}, 0, api.OK},
		{late, usual(), []int{0, 2, 1, 3}, []int{3, 2, 6, 4, 12}, 0, api.OK},
		{swing, wide(), slices.Repeat([]int{1}, 40), append(slices.Repeat([]int{1, 3}, 20), 1), 0, api.OK},
		{swing, wide(), slices.Repeat([]int{1}, 41), nil, 0, api.ErrLarge},
		{swing, wide(), slices.Repeat([]int{-1}, 41), nil, 0, api.ErrLarge},
		{"0 t0r1", wide(), slices.Repeat([]int{1}, 41), nil, 0, api.ErrLarge}, // before ErrOpen
		{"0 t0r1", wide(), nil, nil, 0, api.ErrOpen},
		{"0 t0r1 +0/0/0", wide(), []int{-1}, nil, 0, api.ErrOpen},
		{"3 t0r0 t1r0", wide(), []int{0}, nil, 0, api.ErrClash},
		{"3 t0r0 t0r0", wide(), nil, nil, 0, api.ErrDouble},
		{"3 t0r1 t1r1", usual(), nil, nil, 0, api.ErrBreak},
		{late, usual(), []int{-1}, nil, 0, api.ErrMissing},
		{late, usual(), []int{0, 4}, nil, 1, api.ErrMissing},
		{late, usual(), []int{0, 2, greatest}, nil, 2, api.ErrMissing},
		{late, usual(), []int{0, 2, least, 0}, nil, 2, api.ErrMissing},
		{late, usual(), []int{1}, nil, 0, api.ErrAllowed},
		{late, usual(), []int{0, 2, 3, 4}, nil, 2, api.ErrAllowed},
		{late, usual(), []int{0, 0, 4}, nil, 1, api.ErrAllowed},
		{early, usual(), []int{0, 2, 3}, nil, 2, api.ErrBreak},
		{early, usual(), []int{0, 2, 1, 3}, []int{3, 2, 6, 4, 12}, 0, api.OK},
		{late, limits(span(0, 10), 4, 10, 19), []int{0, 2}, nil, 0, api.ErrRefused},
		{late, limits(span(0, 10), 4, 9, 19), []int{0, 2}, nil, 0, api.ErrBreak},
		{late, limits(span(0, 10), 2, 10, 30), []int{0, 2}, nil, 1, api.ErrBreak},
		{"1 t0r1 t1r0 -0/0/0 +1/0/0", wide(), []int{1, 0}, []int{1, 3, 2}, 0, api.OK},
		{"1 t0r1 t1r0 -0/0/0 +1/0/0", wide(), []int{0, 1}, nil, 0, api.ErrOpen},
	} {
		m := machine(t, x.machine)
		if l, i, e := tap.RunOf(m, x.limits, x.run); i != x.index || e != x.want || !slices.Equal(l, x.states) {
			t.Error(x, l, i, e)
		}
		if x.want == api.OK {
			continue
		}
		for _, load := range []int{0, 1001} { // the errors of the run come before that of the load
			if l, i, e := tap.WearOf(m, x.limits, x.run, load); l != nil || i != x.index || e != x.want {
				t.Error(x, load, l, i, e)
			}
		}
	}
}

// P6.5: the wear of each contact, by what it breaks when it opens.
func TestWearOf(t *testing.T) {
	for _, x := range []struct {
		machine string
		run     []int
		load    int
		want    []api.Frac
	}{
		{late, nil, 10, fracs(0, 1, 0, 1, 0, 1, 0, 1)},
		{late, []int{0}, 10, fracs(100, 1, 0, 1, 0, 1, 0, 1)},
		{late, []int{0, 2, 1, 3}, 10, fracs(100, 1, 4, 1, 0, 1, 0, 1)},
		{late, []int{0, 2, 1, 3}, -10, fracs(100, 1, 64, 1, 0, 1, 0, 1)},
		{late, []int{0, 2, 1, 3}, 1, fracs(1, 1, 25, 4, 0, 1, 0, 1)},
		{late, []int{0}, 1000, fracs(1000000, 1, 0, 1, 0, 1, 0, 1)}, // not in the range of loads
		{swing, []int{1, 1, 1, 1, 1}, 3, fracs(0, 1, 9, 2)},
		{swing, slices.Repeat([]int{1}, 40), 1000, fracs(0, 1, 5000000, 1)},
	} {
		m := machine(t, x.machine)
		l := usual()
		if l, i, e := tap.WearOf(m, l, x.run, x.load); i != 0 || e != api.OK || !slices.Equal(l, x.want) {
			t.Error(x, l, i, e)
		}
	}
	for _, load := range []int{1001, -1001, least, greatest} {
		if l, i, e := tap.WearOf(machine(t, late), usual(), []int{0, 2}, load); l != nil || i != 0 || e != api.ErrRange {
			t.Error(load, l, i, e)
		}
	}
}

// P6.5: squares and sums up to MaxPart, and beyond it.
func TestLargeWear(t *testing.T) {
	const (
		once  = "7 t0r10 t1r1 t1r3 -1/0/0 +1/0/0"
		twice = "7 t0r9 t1r1 t1r4 -1/0/0 +1/0/0"
	)
	for _, x := range []struct {
		machine       string
		voltage, load int
		run           []int
		want          []api.Frac
	}{
		{once, 540, 1000, []int{1}, fracs(0, 1, 999824400, 1849, 0, 1)}, // 31620/43
		{once, 541, 1000, []int{1}, nil},                                // 31623/43
		{once, 541, 1000, []int{1, 1}, nil},
		{once, 541, 1000, nil, fracs(0, 1, 0, 1, 0, 1)},
		{twice, 190, 600, []int{1, 1, 1}, fracs(0, 1, 999939200, 2401, 0, 1)}, // 22360/49
		{twice, 191, 600, []int{1, 1}, fracs(0, 1, 500148496, 2401, 0, 1)},    // 22364/49
		{twice, 191, 600, []int{1, 1, 1}, nil},
		{twice, 700, 200, slices.Repeat([]int{1}, 20), fracs(0, 1, 1000000000, 2401, 0, 1)}, // 10 times 10000/49
		{twice, 700, 200, slices.Repeat([]int{1}, 21), nil},
	} {
		l, want := wide(), api.OK
		l.Voltage = x.voltage
		if x.want == nil {
			want = api.ErrLarge
		}
		if w, i, e := tap.WearOf(machine(t, x.machine), l, x.run, x.load); i != 0 || e != want || !slices.Equal(w, x.want) {
			t.Error(x, w, i, e)
		}
	}
}

// P6.5: a sum of the first squares may be too large, though that of all is not.
func TestLargeWearOnTheWay(t *testing.T) {
	m := machine(t, "15 t0r4 t0r5 t1r9 t0r3 +0/0/0 -0/0/0 +1/0/0 -1/0/0 +2/0/0 -2/0/0 +3/0/0 -3/0/0")
	l := wide()
	l.Voltage = 2
	run := []int{3, 2, 2, 3, 0, 2, 2, 0, 0, 1, 0, 1, 0, 1, 2, 1, 2, 1, 2}
	states, i, e := tap.RunOf(m, l, run)
	if i != 0 || e != api.OK {
		t.Fatal(states, i, e)
	}
	all, squares, sums := wearBy(m, l, run, states, 10)
	for _, x := range all {
		if !fits(x) || !squares || sums {
			t.Error(x, squares, sums)
		}
	}
	if w, i, e := tap.WearOf(m, l, run, 10); w != nil || i != 0 || e != api.ErrLarge {
		t.Error(w, i, e)
	}
}

// wearBy returns the wear of each contact by a run, and whether squares and sums of squares fit.
func wearBy(m api.TapMachine, l api.TapLimits, run, states []int, load int) (wear []*big.Rat, squares, sums bool) {
	for range m.Branches {
		wear = append(wear, new(big.Rat))
	}
	squares, sums = true, true
	for i, contact := range run {
		if states[i+1] > states[i] {
			continue
		}
		x := currentsBy(m, l, states[i], load)[contact]
		square := times(x, x)
		wear[contact] = plus(wear[contact], square)
		squares, sums = squares && fits(square), sums && fits(wear[contact])
	}
	return wear, squares, sums
}

// P6.5: the wear by runs of all sorts of machines.
func TestWear(t *testing.T) {
	r := numbers(12)
	seen, largeSquares, largeSums := 0, 0, 0
	for range 6000 {
		m, l := provable(&r)
		l.Circulating, l.Break, l.Return = 1000, 1000, 1000
		l.Voltage = r.from(0, []int{10, 1000}[r.below(2)])
		run := safeRun(&r, m, l)
		states, _, e := tap.RunOf(m, l, run)
		if e != api.OK {
			continue
		}
		load := r.from(-1000, 1000)
		want, squares, sums := wearBy(m, l, run, states, load)
		wear, i, e := tap.WearOf(m, l, run, load)
		switch {
		case squares && sums:
			seen++
			if i != 0 || e != api.OK || !isRats(wear, want) {
				t.Fatal(tap.FormatMachine(m), l, run, load, wear, i, e)
			}
			continue
		case squares:
			largeSums++
		default:
			largeSquares++
		}
		if wear != nil || i != 0 || e != api.ErrLarge {
			t.Fatal(tap.FormatMachine(m), l, run, load, wear, i, e)
		}
	}
	if seen < 500 || largeSquares < 20 || largeSums < 20 {
		t.Error(seen, largeSquares, largeSums)
	}
}

// safeRun returns a run of safe changes.
func safeRun(r *numbers, m api.TapMachine, l api.TapLimits) []int {
	var run []int
	state := m.Start
	for range 10 * r.from(0, 10) {
		contact := r.below(len(m.Branches))
		if len(run) < 40 && moveBy(m, l, state, contact) == api.OK {
			run = append(run, contact)
			state = after(m, state, contact)
		}
	}
	return run
}
