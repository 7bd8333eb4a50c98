package surge_test

import (
	"math/big"
	"reflect"
	"strconv"
	"testing"

	"buchholz/api"
	"buchholz/surge"
)

func path(name string, from, to, length, limit int) api.SurgePath {
	return api.SurgePath{Name: name, From: from, To: to, Length: length, Limit: limit}
}

func rank(name string, num, den int, kept bool) api.SurgeRank {
	return api.SurgeRank{Name: name, Stress: frac(num, den), Kept: kept}
}

// P4.6: paths in the order of their stress.
func TestRankPaths(t *testing.T) {
	first := fracs(1, 1, 2, 5, 0, 1)
	for _, x := range []struct {
		voltage int
		u       []api.Frac
		paths   []api.SurgePath
		want    []api.SurgeRank
	}{
		{1000, first, []api.SurgePath{path("p", 0, 1, 60, 10), path("q", 1, 2, 20, 10)},
			[]api.SurgeRank{rank("q", 20, 1, false), rank("p", 10, 1, true)}},
		{1000, first, []api.SurgePath{path("p", 1, 0, 60, 10), path("q", 2, 1, 20, 20)},
			[]api.SurgeRank{rank("q", 20, 1, true), rank("p", 10, 1, true)}}, // in the other direction
		{1000, first, nil, nil},
		{7, first, []api.SurgePath{path("p", 0, 2, 2, 3), path("q", 0, 2, 2, 4)},
			[]api.SurgeRank{rank("p", 7, 2, false), rank("q", 7, 2, true)}},
		{1, fracs(1, 1, 1, 1), []api.SurgePath{path("b", 0, 1, 1, 0), path("a", 1, 0, 7, 0)},
			[]api.SurgeRank{rank("a", 0, 1, true), rank("b", 0, 1, true)}}, // the stress 0
		{6, first, []api.SurgePath{path("a", 0, 2, 3, 9), path("a-", 0, 2, 3, 9), path("aa", 0, 2, 3, 9), path("a9", 0, 2, 3, 9), path("Z", 0, 2, 3, 9), path("B", 0, 2, 2, 9), path("z", 0, 2, 6, 9)},
			[]api.SurgeRank{rank("B", 3, 1, true), rank("Z", 2, 1, true), rank("a", 2, 1, true), rank("a-", 2, 1, true), rank("a9", 2, 1, true), rank("aa", 2, 1, true), rank("z", 1, 1, true)}},
		{1000000, fracs(-1, 3, 2, 3), []api.SurgePath{path("abcdefghijkl", 0, 1, 10000, 99), path("a23456789-12", 0, 1, 1, 1000000)},
			[]api.SurgeRank{rank("a23456789-12", 1000000, 1, true), rank("abcdefghijkl", 100, 1, false)}},
		{1, fracs(1000000000, 1, 0, 1), []api.SurgePath{path("a", 0, 1, 1, 1000000)}, []api.SurgeRank{rank("a", 1000000000, 1, false)}},
		{1, fracs(-1000000000, 1, 0, 1), []api.SurgePath{path("a", 0, 1, 1, 1000000)}, []api.SurgeRank{rank("a", 1000000000, 1, false)}},
		{1, fracs(0, 1, 1, 1000000000), []api.SurgePath{path("a", 0, 1, 1, 0)}, []api.SurgeRank{rank("a", 1, 1000000000, false)}},
		{10000, fracs(1000000000, 1, -1000000000, 1), []api.SurgePath{path("a", 0, 1, 10000, 0), path("b", 0, 1, 1, 0)}, nil},
		{500000, fracs(1000000000, 999999999, 999999999, 1000000000), []api.SurgePath{path("a", 0, 1, 500, 0)}, nil},
		{1000, fracs(1, 1000000000, 0, 1), []api.SurgePath{path("a", 0, 1, 1000, 0)}, []api.SurgeRank{rank("a", 1, 1000000000, false)}},
		{3, fracs(1, 1, 2, 1, 3, 1, 4, 1, 5, 1, 6, 1, 7, 1), []api.SurgePath{path("a", 6, 0, 9, 2)}, []api.SurgeRank{rank("a", 2, 1, true)}},
		{64, fracs(536870913, 1, -1, 536870911), []api.SurgePath{path("a", 0, 1, 1, 0)}, nil},                       // the Num is 2^64
		{1, fracs(877925163, 999999937, 142238444, 162016583), []api.SurgePath{path("a", 0, 1, 797, 1000000)}, nil}, // the Den is a multiple of 2^64 and 18489675
	} {
		l, e := surge.RankPaths(x.voltage, x.u, x.paths)
		if x.want == nil && len(x.paths) > 0 {
			if e != api.ErrLarge || len(l) != 0 {
				t.Error(x, l, e)
			}
		} else if e != api.OK || len(l) != len(x.want) || len(l) > 0 && !reflect.DeepEqual(l, x.want) {
			t.Error(x, l, e)
		}
	}
}

// P4.6: the errors of the voltage and of the distribution.
func TestDistributionErrors(t *testing.T) {
	good := fracs(1, 1, 0, 1)
	long := append(fracs(1, 1, 1, 1, 1, 1, 1, 1, 1, 1, 1, 1), good...)
	for _, x := range []struct {
		voltage int
		u       []api.Frac
		want    api.Errno
	}{
		{0, nil, api.ErrRange},
		{-1, good, api.ErrRange},
		{1000001, good, api.ErrRange},
		{least, good, api.ErrRange},
		{greatest, nil, api.ErrRange},
		{1, nil, api.ErrShape},
		{1, fracs(1, 1), api.ErrShape},
		{1, fracs(0, 0), api.ErrShape},
		{1, long, api.ErrLarge},
		{1, make([]api.Frac, 8), api.ErrLarge},
		{1, fracs(1, 1, 0, 0), api.ErrForm},
		{1, fracs(1, 1, 2, 2), api.ErrForm},
		{1, fracs(1, 1, 0, 2), api.ErrForm},
		{1, fracs(1, -1, 0, 1), api.ErrForm},
		{1, fracs(1, 1, 2, 4, 1000000001, 1), api.ErrForm},
		{1, fracs(1, 1, least, 2), api.ErrForm},
		{1, fracs(1, 1, 1, least), api.ErrForm},
		{1, fracs(1, 1, 2000000002, 2), api.ErrForm},
		{1, fracs(1, 1, 1000000001, 1, 2, 4), api.ErrRange},
		{1, fracs(1, 1, -1000000001, 1), api.ErrRange},
		{1, fracs(1, 1, 1, 1000000001), api.ErrRange},
		{1, fracs(least, 1, 1, 1), api.ErrRange},
		{1, fracs(1, greatest, 1, 1), api.ErrRange},
	} {
		for _, paths := range [][]api.SurgePath{nil, make([]api.SurgePath, 1), make([]api.SurgePath, 13)} {
			if l, e := surge.RankPaths(x.voltage, x.u, paths); e != x.want || len(l) != 0 {
				t.Error(x, l, e)
			}
		}
	}
}

// P4.6: the errors of paths.
func TestPathErrors(t *testing.T) {
	u := fracs(1, 1, 1, 2, 0, 1)
	good := path("good", 0, 2, 10000, 1000000)
	for _, x := range []struct {
		p    api.SurgePath
		want api.Errno
	}{
		{path("", -1, -1, 0, -1), api.ErrName},
		{path("1a", 0, 1, 1, 0), api.ErrName},
		{path("-a", 0, 1, 1, 0), api.ErrName},
		{path("a b", 0, 1, 1, 0), api.ErrName},
		{path("a_b", 0, 1, 1, 0), api.ErrName},
		{path("a.", 0, 1, 1, 0), api.ErrName},
		{path("ä", 0, 1, 1, 0), api.ErrName},
		{path("aé", 0, 1, 1, 0), api.ErrName},
		{path("[", 0, 1, 1, 0), api.ErrName},
		{path("`", 0, 1, 1, 0), api.ErrName},
		{path("@", 0, 1, 1, 0), api.ErrName},
		{path("{", 0, 1, 1, 0), api.ErrName},
		{path("a/", 0, 1, 1, 0), api.ErrName},
		{path("a:", 0, 1, 1, 0), api.ErrName},
		{path("a\x00", 0, 1, 1, 0), api.ErrName},
		{path("abcdefghijklm", 0, 1, 1, 0), api.ErrName},
		{path("good", -1, -1, 0, -1), api.ErrExists},
		{path("good", 0, 1, 1, 0), api.ErrExists},
		{path("a", -1, 1, 0, -1), api.ErrMissing},
		{path("a", 1, -1, 1, 0), api.ErrMissing},
		{path("a", 3, 1, 1, 0), api.ErrMissing},
		{path("a", 1, 3, 1, 0), api.ErrMissing},
		{path("a", 3, 3, 1, 0), api.ErrMissing},
		{path("a", least, greatest, 1, 0), api.ErrMissing},
		{path("a", 1, 1, 0, -1), api.ErrForm},
		{path("a", 0, 0, 1, 0), api.ErrForm},
		{path("a", 0, 1, 0, 0), api.ErrRange},
		{path("a", 0, 1, -1, 0), api.ErrRange},
		{path("a", 0, 1, 10001, 0), api.ErrRange},
		{path("a", 0, 1, least, 0), api.ErrRange},
		{path("a", 0, 1, 1, -1), api.ErrRange},
		{path("a", 0, 1, 1, 1000001), api.ErrRange},
		{path("a", 0, 1, 1, least), api.ErrRange},
		{path("a", 0, 1, greatest, greatest), api.ErrRange},
	} {
		for _, paths := range [][]api.SurgePath{{good, x.p}, {good, path("A", 0, 1, 1, 0), x.p, {}}} {
			if l, e := surge.RankPaths(1, u, paths); e != x.want || len(l) != 0 {
				t.Error(x, l, e)
			}
		}
	}
	if l, e := surge.RankPaths(1, u, make([]api.SurgePath, 13)); e != api.ErrLarge || len(l) != 0 {
		t.Error(l, e)
	}
	large := fracs(1, 1000000000, 0, 1)
	if l, e := surge.RankPaths(1, large, []api.SurgePath{path("a", 0, 1, 2, 0), {}}); e != api.ErrName || len(l) != 0 {
		t.Error(l, e) // all paths are checked before the stress of one
	}
	if l, e := surge.RankPaths(1, large, []api.SurgePath{path("a", 0, 1, 1, 0), path("b", 0, 1, 2, 0)}); e != api.ErrLarge || len(l) != 0 {
		t.Error(l, e)
	}
}

// stressBySum returns the stress of a path.
func stressBySum(voltage int, u []api.Frac, p api.SurgePath) *big.Rat {
	return times(rat(voltage, p.Length), size(minus(ratOf(u[p.From]), ratOf(u[p.To]))))
}

// randomDistribution returns a valid distribution.
func randomDistribution(r *numbers) []api.Frac {
	most := []int{5, 1000, 30000, 1000000000}[r.below(4)]
	var u []api.Frac
	for range r.from(2, 7) {
		u = append(u, lowest(r.from(-most, most), r.from(1, most)))
	}
	return u
}

// P4.6: the order and the stress of many paths.
func TestRanks(t *testing.T) {
	r := numbers(16)
	for range 3000 {
		u := randomDistribution(&r)
		voltage := r.from(1, []int{10, 1000000}[r.below(2)])
		var paths []api.SurgePath
		var stresses []*big.Rat
		for i := range r.below(13) {
			from := r.below(len(u))
			to := (from + r.from(1, len(u)-1)) % len(u)
			p := path("p"+strconv.Itoa(i*7%13), from, to, r.from(1, []int{3, 10000}[r.below(2)]), 0)
			stress := stressBySum(voltage, u, p)
			if around := new(big.Int).Quo(stress.Num(), stress.Denom()); around.IsInt64() {
				p.Limit = min(int(around.Int64())+r.below(2), 1000000)
			}
			paths, stresses = append(paths, p), append(stresses, stress)
		}
		l, e := surge.RankPaths(voltage, u, paths)
		if anyLarge(stresses) {
			if e != api.ErrLarge || len(l) != 0 {
				t.Fatal(voltage, u, paths, l, e)
			}
			continue
		}
		if e != api.OK || len(l) != len(paths) {
			t.Fatal(voltage, u, paths, l, e)
		}
		for i, p := range paths {
			at := 0 // how many come before
			for j, q := range paths {
				order := stresses[j].Cmp(stresses[i])
				if order > 0 || order == 0 && q.Name < p.Name {
					at++
				}
			}
			kept := stresses[i].Cmp(whole(p.Limit)) <= 0
			if got := l[at]; got.Name != p.Name || got.Kept != kept || !isRat(got.Stress, stresses[i]) {
				t.Fatal(voltage, u, paths, l, i, at)
			}
		}
	}
}
