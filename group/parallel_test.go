package group_test

import (
	"testing"

	"buchholz/api"
	"buchholz/group"
)

// P1.6: the percentage is of ratio squares, in both directions.
func TestMayRun(t *testing.T) {
	for _, x := range []struct {
		u, v    string
		percent int
		want    bool
	}{
		{"d+0/10 y+0/10 0", "d+0/10 y+0/10 0", 0, true},
		{"d+0/10 y+0/10 0", "d+0/20 y+0/20 7", 0, true},
		{"d+0/10 y+0/10 0", "d+0/10 y+1/10 0", 100, false},
		{"d+0/10 y+0/10 0", "d+1/10 y+1/10 0", 0, true},
		{"d+0/10 y+0/10 0", "d+0/100 y+0/99 0", 5, true},
		{"d+0/10 y+0/10 0", "d+0/100 y+0/99 0", 3, true},
		{"d+0/10 y+0/10 0", "d+0/100 y+0/99 0", 2, false},
		{"d+0/10 y+0/10 0", "d+0/1999 y+0/2000 0", 0, false},
		{"y+0/10 y+0/10 0", "y+0/11 y+0/10 0", 21, true},
		{"y+0/10 y+0/10 0", "y+0/11 y+0/10 0", 20, false},
		{"y+0/10 y+0/10 0", "y+0/15 y+0/10 0", 100, false},
		{"z+0/2000 d+0/1 0", "z+0/1415 d+0/1 0", 100, true},
		{"z+0/2000 d+0/1 0", "z+0/1414 d+0/1 0", 100, false},
	} {
		u, v := unit(t, x.u), unit(t, x.v)
		if is, e := group.MayRun(u, v, x.percent); e != api.OK || is != x.want {
			t.Error(x, is, e)
		}
		if is, e := group.MayRun(v, u, x.percent); e != api.OK || is != x.want {
			t.Error("the other way", x, is, e)
		}
	}
}

// P1.6: the examples of matches.
func TestMatchFor(t *testing.T) {
	same := [3]int{0, 1, 2}
	for _, x := range []struct {
		u, v    string
		percent int
		want    api.GroupMatch
		e       api.Errno
	}{
		{"d+0/10 y+0/10 0", "d+0/10 y+0/10 0", 0, api.GroupMatch{High: same, Low: same}, api.OK},
		{"d+0/10 y+0/10 0", "d+0/10 y+1/10 0", 0, api.GroupMatch{High: same, Low: [3]int{2, 0, 1}}, api.OK},
		{"d+0/10 y+0/10 0", "d+0/10 y-2/10 0", 0, api.GroupMatch{High: [3]int{0, 2, 1}, Low: [3]int{0, 2, 1}}, api.OK},
		{"y+0/10 y+0/10 0", "y+0/10 y-0/10 0", 100, api.GroupMatch{}, api.ErrNone},
		{"y+0/10 y+0/10 0", "y+0/15 y+0/10 0", 100, api.GroupMatch{}, api.ErrNone},
		{"d+0/10 y+0/10 0", "d+0/100 y+1/99 0", 2, api.GroupMatch{}, api.ErrNone},
		{"d+0/10 y+0/10 0", "d+0/100 y+1/99 0", 3, api.GroupMatch{High: same, Low: [3]int{2, 0, 1}}, api.OK},
	} {
		if m, e := group.MatchFor(unit(t, x.u), unit(t, x.v), x.percent); e != x.e || m != x.want {
			t.Error(x, m, e)
		}
	}
}

// P1.6: the errors of the units, and then that of the percentage.
func TestParallelErrors(t *testing.T) {
	good := api.GroupUnit{High: delta(10), Low: star(10)}
	check := func(u, v api.GroupUnit, percent int, want api.Errno) {
		t.Helper()
		if is, e := group.MayRun(u, v, percent); e != want || is {
			t.Error(u, v, percent, is, e)
		}
		if m, e := group.MatchFor(u, v, percent); e != want || m != (api.GroupMatch{}) {
			t.Error(u, v, percent, m, e)
		}
	}
	for _, b := range badUnits() {
		check(b.unit, good, -1, b.want)
		check(good, b.unit, 101, b.want)
	}
	check(api.GroupUnit{High: star(0), Low: star(1)}, api.GroupUnit{High: api.GroupWinding{Kind: 3}}, 0, api.ErrRange)
	for _, percent := range []int{-1, 101, least, greatest} {
		check(good, good, percent, api.ErrRange)
	}
}

// matchBySearch finds the first match by the exported functions of lines alone.
func matchBySearch(t *testing.T, clock int, v api.GroupUnit) (api.GroupMatch, bool) {
	t.Helper()
	high, _ := group.LinesOf(v.High)
	low, _ := group.LinesOf(v.Low)
	for _, p := range permutations {
		for _, q := range permutations {
			a, _ := group.Renamed(high, p)
			b, _ := group.Renamed(low, q)
			m, _ := group.SequenceOf(a)
			n, _ := group.SequenceOf(b)
			if difference := m * (hoursOf(t, a) - hoursOf(t, b)); m == n && (difference+12)%12 == clock {
				return api.GroupMatch{High: p, Low: q}, true
			}
		}
	}
	return api.GroupMatch{}, false
}

// P1.6 and P1.13: all kinds, shifts and signs of both units, whose voltages are equal but for the rounding of turns.
func TestAllMatches(t *testing.T) {
	const percent = 5
	same := api.GroupMatch{High: [3]int{0, 1, 2}, Low: [3]int{0, 1, 2}}
	first := map[[2]int]api.GroupUnit{}
	for _, u := range allUnits() {
		clock, _ := group.ClockOf(u)
		first[[2]int{u.High.Kind, clock}] = u
	}
	for key, u := range first {
		clock := key[1]
		for _, v := range allUnits() {
			other, _ := group.ClockOf(v)
			want, found := matchBySearch(t, clock, v)
			m, e := group.MatchFor(u, v, percent)
			if m != want || found != (e == api.OK) || !found && e != api.ErrNone {
				t.Error(u, v, m, e, want)
			}
			if exists := clock%2 == other%2 && (clock%2 == 1 || clock%4 == other%4); exists != found {
				t.Error(u, v, found)
			}
			may, _ := group.MayRun(u, v, percent)
			back, _ := group.MayRun(v, u, percent)
			if may != back || may != (clock == other) || may != (m == same && e == api.OK) {
				t.Error(u, v, may, back, m, e)
			}
		}
	}
}
