package group

import "buchholz/api"

// ratiosAgree returns whether the ratio squares of two valid units differ by at most a percentage. Ratio squares have parts of at most 9 MaxGroupTurns^2, so that the products fit an int.
func ratiosAgree(u, v api.GroupUnit, percent int) bool {
	r, q := ratioFrom(u), ratioFrom(v)
	a, b := r.Num*q.Den, q.Num*r.Den
	return 100*a <= (100+percent)*b && 100*b <= (100+percent)*a
}

// renamedClock returns the clock number of a valid unit whose terminals are renamed, if its lines keep the same sequence on both sides.
func renamedClock(u api.GroupUnit, m api.GroupMatch) (int, bool) {
	high, low := linesFrom(u.High).renamed(m.High), linesFrom(u.Low).renamed(m.Low)
	a, _ := high.sequence()
	b, _ := low.sequence()
	if a != b {
		return 0, false
	}
	// a is the sequence, 1 or -1: it turns the difference into its opposite where that is asked for.
	return modulo(a*(hoursFrom(high)-hoursFrom(low)), 12), true
}

// MayRun returns whether two units may run in parallel as they are.
func MayRun(u, v api.GroupUnit, percent int) (bool, api.Errno) {
	if e := checkPair(u, v, percent); e != api.OK {
		return false, e
	}
	return clockFrom(u) == clockFrom(v) && ratiosAgree(u, v, percent), api.OK
}

// MatchFor returns the first renaming of the second unit's terminals by which the units may run in parallel.
func MatchFor(u, v api.GroupUnit, percent int) (api.GroupMatch, api.Errno) {
	if e := checkPair(u, v, percent); e != api.OK {
		return api.GroupMatch{}, e
	}
	if !ratiosAgree(u, v, percent) {
		return api.GroupMatch{}, api.ErrNone
	}
	want := clockFrom(u)
	for _, high := range permutations {
		for _, low := range permutations {
			m := api.GroupMatch{High: high, Low: low}
			if clock, same := renamedClock(v, m); same && clock == want {
				return m, api.OK
			}
		}
	}
	return api.GroupMatch{}, api.ErrNone
}
