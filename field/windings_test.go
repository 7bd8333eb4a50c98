package field_test

import (
	"math/big"
	"testing"

	"buchholz/api"
	"buchholz/field"
)

// P3.5: the inductances of the examples, and of windings without turns.
func TestInductances(t *testing.T) {
	for _, x := range []struct {
		net             string
		a, b            []int
		mutual, leakage api.Frac
		e               api.Errno // of the leakage inductance
	}{
		{third, []int{1, 0, 0}, []int{0, 1, 0}, api.Frac{Num: 1, Den: 6}, api.Frac{Num: 5, Den: 36}, api.OK},
		{third, []int{0, 1, 0}, []int{1, 0, 0}, api.Frac{Num: 1, Den: 6}, api.Frac{Num: 5, Den: 36}, api.OK},
		{third, []int{1, 0, 0}, []int{1, 0, 0}, api.Frac{Num: 2, Den: 9}, api.Frac{Num: 0, Den: 1}, api.OK},
		{third, []int{-50, 0, 0}, []int{50, 0, 0}, api.Frac{Num: -5000, Den: 9}, api.Frac{Num: 0, Den: 1}, api.OK},
		{third, []int{0, 0, 0}, []int{50, 0, 0}, api.Frac{Num: 0, Den: 1}, api.Frac{Num: 0, Den: 1}, api.OK},
		{third, []int{2, 0, 0}, []int{0, -1, 0}, api.Frac{Num: -1, Den: 3}, api.Frac{Num: 5, Den: 9}, api.OK},
		{third, []int{1, 0, 0}, []int{0, 0, 0}, api.Frac{Num: 0, Den: 1}, api.Frac{}, api.ErrZero},
		{third, []int{1, 0, 0}, []int{0, 7, -7}, api.Frac{Num: 14, Den: 9}, api.Frac{}, api.ErrZero},
		{"1", nil, nil, api.Frac{Num: 0, Den: 1}, api.Frac{}, api.ErrZero},
	} {
		n := net(t, x.net)
		if m, e := field.MutualOf(n, x.a, x.b); e != api.OK || m != x.mutual {
			t.Error(x, m, e)
		}
		if l, e := field.LeakageOf(n, x.a, x.b); e != x.e || l != x.leakage {
			t.Error(x, l, e)
		}
	}
}

// P3.5: windings that are not valid.
func TestBadWindings(t *testing.T) {
	type inductance = func(api.FieldNet, []int, []int) (api.Frac, api.Errno)
	n, good := net(t, third), []int{50, -50, 1}
	for name, f := range map[string]inductance{"MutualOf": field.MutualOf, "LeakageOf": field.LeakageOf} {
		for _, x := range badLists(3, -50, 50) {
			for _, windings := range [][2][]int{{x.list, good}, {good, x.list}, {x.list, {0}}, {x.list, {51, 0, 0}}, {x.list, {0, 0, 0}}} {
				if m, e := f(n, windings[0], windings[1]); e != x.want || m != (api.Frac{}) {
					t.Error(name, windings, m, e)
				}
			}
		}
		refuse(t, name, func(n api.FieldNet) (bool, api.Errno) {
			m, e := f(n, []int{51}, []int{51})
			return m == api.Frac{}, e
		})
	}
}

// P3.5: inductances that are too large, and a leakage inductance that is so only by one of its parts.
func TestLargeInductances(t *testing.T) {
	n := net(t, primes)
	a, b := []int{50, 49, 48, 47, 46, -45, -44}, []int{0, 0, 0, 0, 0, 0, 1}
	if m, e := field.MutualOf(n, a, a); e != api.ErrLarge || m != (api.Frac{}) {
		t.Error(m, e)
	}
	if l, e := field.LeakageOf(n, a, b); e != api.ErrLarge || l != (api.Frac{}) {
		t.Error(l, e)
	}
	if l, e := field.LeakageOf(n, a, make([]int, 7)); e != api.ErrZero || l != (api.Frac{}) {
		t.Error(l, e)
	}
}

// leakageBySum returns the leakage inductance of two windings.
func leakageBySum(n api.FieldNet, a, b []int) *big.Rat {
	sumA, sumB := 0, 0
	for i := range a {
		sumA += a[i]
		sumB += b[i]
	}
	turns := make([]int, len(a))
	for i := range a {
		turns[i] = sumB*a[i] - sumA*b[i]
	}
	_, fluxes := solved(n, turns)
	return over(linked(turns, fluxes), whole(sumB*sumB))
}

// P3.5, P3.11: both inductances, and how they depend on each other. The Turns of the network do not matter.
func TestReciprocity(t *testing.T) {
	r := numbers(31)
	large, zero := 0, 0
	for range 2000 {
		n := randomNet(&r, []int{3, 20}[r.below(2)])
		most := []int{2, 50}[r.below(2)]
		a, b := randomList(&r, len(n.Branches), -most, most), randomList(&r, len(n.Branches), -most, most)
		aa, ab, bb := mutualBySum(n, a, a), mutualBySum(n, a, b), mutualBySum(n, b, b)
		m, e := field.MutualOf(n, a, b)
		checkFrac(t, m, e, ab, n, a, b)
		back, f := field.MutualOf(n, b, a)
		if back != m || e != f {
			t.Fatal(n, a, b, m, back, e, f)
		}
		if e == api.ErrLarge {
			large++
		}
		self, e := field.MutualOf(n, a, a)
		checkFrac(t, self, e, aa, n, a)
		if self.Num < 0 || square(ab).Cmp(times(aa, bb)) > 0 {
			t.Fatal(n, a, b, aa, ab, bb)
		}
		sumA, sumB := 0, 0
		for i := range a {
			sumA += a[i]
			sumB += b[i]
		}
		l, e := field.LeakageOf(n, a, b)
		if sumB == 0 {
			zero++
			if e != api.ErrZero || l != (api.Frac{}) {
				t.Fatal(n, a, b, l, e)
			}
			continue
		}
		ratio := rat(sumA, sumB)
		want := plus(minus(aa, times(times(whole(2), ratio), ab)), times(square(ratio), bb))
		checkFrac(t, l, e, want, n, a, b)
		if want.Cmp(leakageBySum(n, a, b)) != 0 {
			t.Fatal(n, a, b, want)
		}
	}
	if large == 0 || zero == 0 {
		t.Error(large, zero)
	}
}

// P3.5: the greatest ampere turns for a leakage inductance, with great and small reluctances.
func TestGreatLeakage(t *testing.T) {
	a, b := []int{50, 50, 50, 50, 50, 50, 50}, []int{50, 50, 50, 50, 50, 50, -50}
	for _, reluctances := range [][]int{{20, 20, 20, 20, 20, 20, 20}, {1, 1, 1, 1, 1, 1, 1}, {1, 20, 20, 20, 20, 20, 20}, {20, 19, 17, 13, 11, 7, 1}, {20, 20, 20, 20, 20, 20, 1}} {
		n := withReluctances(net(t, primes), reluctances)
		for _, x := range [][2][]int{{a, b}, {b, a}, {{50, 50, 50, 50, -50, -50, -49}, a}, {a, {50, 50, 50, -50, -50, -50, 1}}} {
			l, e := field.LeakageOf(n, x[0], x[1])
			checkFrac(t, l, e, leakageBySum(n, x[0], x[1]), reluctances, x)
		}
	}
}
