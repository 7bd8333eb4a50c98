package surge

import (
	"cmp"
	"slices"
	"strings"

	"buchholz/api"
)

// difference returns the size of the difference of two valid fractions, in lowest terms. It may be too large for a fraction.
func difference(a, b api.Frac) api.Frac {
	return reduced(sizeOf(a.Num*b.Den-b.Num*a.Den), a.Den*b.Den)
}

// ranked returns a valid path with its stress.
func ranked(voltage int, u []api.Frac, p api.SurgePath) (api.SurgeRank, api.Errno) {
	stress, e := product(difference(u[p.From], u[p.To]), reduced(voltage, p.Length))
	if e != api.OK {
		return api.SurgeRank{}, e
	}
	return api.SurgeRank{Name: p.Name, Stress: stress, Kept: stress.Num <= p.Limit*stress.Den}, api.OK
}

// inOrder compares ranks by descending stress, then by names.
func inOrder(a, b api.SurgeRank) int {
	stress := cmp.Compare(b.Stress.Num*a.Stress.Den, a.Stress.Num*b.Stress.Den)
	return cmp.Or(stress, strings.Compare(a.Name, b.Name))
}

func checkPaths(paths []api.SurgePath, nodes int) api.Errno {
	if e := checkCount(len(paths), 0, api.MaxSurgePaths); e != api.OK {
		return e
	}
	for i, p := range paths {
		if e := checkPath(p, nodes, paths[:i]); e != api.OK {
			return e
		}
	}
	return api.OK
}

// RankPaths returns all paths with their stress, ordered.
func RankPaths(voltage int, u []api.Frac, paths []api.SurgePath) ([]api.SurgeRank, api.Errno) {
	numbers := firstOf(within(1, api.MaxSurgeVoltage)(voltage), checkDistribution(u))
	if e := firstOf(numbers, checkPaths(paths, len(u))); e != api.OK {
		return nil, e
	}
	var ranks []api.SurgeRank
	for _, p := range paths {
		r, e := ranked(voltage, u, p)
		if e != api.OK {
			return nil, e
		}
		ranks = append(ranks, r)
	}
	slices.SortFunc(ranks, inOrder)
	return ranks, api.OK
}
