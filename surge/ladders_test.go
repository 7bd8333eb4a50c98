package surge_test

import (
	"math/big"
	"reflect"
	"testing"

	"buchholz/api"
	"buchholz/surge"
)

// The ladders of the examples 1 and 2.
const (
	earthed = "2,2;1,0;1,3;earthed"
	open    = "2,2;1,0;1,3;open"
)

// heavy is a ladder whose initial voltages have parts above MaxPart.
const heavy = "97,89,83,79,73,71;96,95,94,93,92,91;1,1,1,1,1,1;open"

// P4.1: ladders at their limits.
func TestCheckLadder(t *testing.T) {
	six := []int{1, 100, 1, 100, 1, 100}
	for _, l := range []api.SurgeLadder{
		{Series: []int{1}, Earth: []int{0}, Turns: []int{1}},
		{Series: []int{100}, Earth: []int{100}, Turns: []int{1000}, Earthed: true},
		{Series: six, Earth: []int{0, 100, 0, 100, 0, 100}, Turns: []int{1, 1000, 1, 1000, 1, 1000}},
		{Series: six, Earth: make([]int, 6), Turns: six, Earthed: true},
	} {
		if e := surge.CheckLadder(l); e != api.OK {
			t.Error(l, e)
		}
	}
	refuse(t, "CheckLadder", func(l api.SurgeLadder) (bool, api.Errno) {
		return true, surge.CheckLadder(l)
	})
}

// P4.1: initial distributions.
func TestInitialOf(t *testing.T) {
	for s, want := range map[string][]api.Frac{
		earthed:                          fracs(1, 1, 2, 5, 0, 1),
		open:                             fracs(1, 1, 2, 3, 2, 3),
		"5;0;1;open":                     fracs(1, 1, 1, 1),
		"5;5;1;open":                     fracs(1, 1, 1, 2),
		"5;5;1;earthed":                  fracs(1, 1, 0, 1),
		"2,2;1,100;1,3;earthed":          fracs(1, 1, 2, 5, 0, 1), // the earth of the last node does not matter
		"1,2,3;0,0,0;1,1,1;open":         fracs(1, 1, 1, 1, 1, 1, 1, 1),
		"1,1;1,1;9,9;open":               fracs(1, 1, 2, 5, 1, 5),
		"1,100;0,100;9,9;open":           fracs(1, 1, 1, 51, 1, 102),
		"1,1,1;0,0,0;1,1,1;earthed":      fracs(1, 1, 2, 3, 1, 3, 0, 1),
		"4,3,2,1;0,7,0,0;1,1,1,1;open":   fracs(1, 1, 40, 61, 12, 61, 12, 61, 12, 61),
		"1,1,1,1;0,1,0,0;1,1,1,1;open":   fracs(1, 1, 2, 3, 1, 3, 1, 3, 1, 3),
		"1,1;0,0;1000,1000;open":         fracs(1, 1, 1, 1, 1, 1),
		"100,1;100,100;1000,1;earthed":   fracs(1, 1, 100, 201, 0, 1),
		"100,100;0,0;1000,1000;earthed":  fracs(1, 1, 1, 2, 0, 1),
		"1,1,1;0,0,1;1,1,1;open":         fracs(1, 1, 3, 4, 1, 2, 1, 4),
		"6,3,2;0,0,1;1,1,1;earthed":      fracs(1, 1, 5, 6, 1, 2, 0, 1),
		"1,1,1;100,0,0;1,1,1;open":       fracs(1, 1, 1, 101, 1, 101, 1, 101),
		"1,1,1,1;0,0,0,0;2,2,2,2;open":   fracs(1, 1, 1, 1, 1, 1, 1, 1, 1, 1),
		"50,50;50,50;1,1;earthed":        fracs(1, 1, 1, 3, 0, 1),
		"3,1,1;0,0,0;1,998,1000;earthed": fracs(1, 1, 6, 7, 3, 7, 0, 1),
	} {
		if u, e := surge.InitialOf(ladder(t, s)); e != api.OK || !reflect.DeepEqual(u, want) {
			t.Error(s, u, e)
		}
	}
	refuse(t, "InitialOf", func(l api.SurgeLadder) (bool, api.Errno) {
		u, e := surge.InitialOf(l)
		return len(u) == 0, e
	})
	if u, e := surge.InitialOf(ladder(t, heavy)); len(u) != 0 || e != api.ErrLarge {
		t.Error(u, e)
	}
}

// P4.1, P4.2: initial distributions, worst gaps and envelopes of many ladders.
func TestDistributions(t *testing.T) {
	r := numbers(1)
	for i := range 3000 {
		l := randomLadder(&r, []int{3, 10, 30, 100}[i%4])
		u := solved(l)
		got, e := surge.InitialOf(l)
		checkFracs(t, got, e, u, false, l)
		got, e = surge.FinalOf(l)
		end := finalBySum(l)
		checkFracs(t, got, e, end, false, l)
		var envelope []*big.Rat
		for i := range u {
			envelope = append(envelope, plus(end[i], size(minus(end[i], u[i]))))
		}
		got, e = surge.EnvelopeOf(l)
		checkFracs(t, got, e, envelope, anyLarge(u), l)
		checkWorst(t, l, u)
	}
}

// checkWorst compares the worst gap of a ladder with its initial voltages.
func checkWorst(t *testing.T, l api.SurgeLadder, u []*big.Rat) {
	t.Helper()
	worst, most := 0, new(big.Rat)
	for i := range l.Series {
		if stress := minus(u[i], u[i+1]); stress.Cmp(most) > 0 {
			worst, most = i, stress
		}
	}
	gap, stress, e := surge.WorstGap(l)
	if anyLarge(u) || isLarge(most) {
		if gap != 0 || stress != (api.Frac{}) || e != api.ErrLarge {
			t.Fatal(l, gap, stress, e)
		}
		return
	}
	if gap != worst || !isRat(stress, most) || e != api.OK {
		t.Fatal(l, gap, stress, e, worst, most)
	}
}

// P4.2: final distributions.
func TestFinalOf(t *testing.T) {
	for s, want := range map[string][]api.Frac{
		earthed:                           fracs(1, 1, 3, 4, 0, 1),
		open:                              fracs(1, 1, 1, 1, 1, 1),
		"5;5;7;earthed":                   fracs(1, 1, 0, 1),
		"5;5;7;open":                      fracs(1, 1, 1, 1),
		"1,1,1;9,9,9;1,2,3;earthed":       fracs(1, 1, 5, 6, 1, 2, 0, 1),
		"1,1;0,0;1000,999;earthed":        fracs(1, 1, 999, 1999, 0, 1),
		"1,1,1;0,0,0;2,3,5;open":          fracs(1, 1, 1, 1, 1, 1, 1, 1),
		"1,1,1;0,0,0;1,998,1;earthed":     fracs(1, 1, 999, 1000, 1, 1000, 0, 1),
		"1,1,1;0,0,0;1000,1,1;earthed":    fracs(1, 1, 1, 501, 1, 1002, 0, 1),
		"1,1,1,1;0,0,0,0;1,1,1,1;open":    fracs(1, 1, 1, 1, 1, 1, 1, 1, 1, 1),
		"1,1,1,1;9,9,9,9;3,1,1,1;open":    fracs(1, 1, 1, 1, 1, 1, 1, 1, 1, 1),
		"1,1,1,1;9,9,9,9;3,1,1,1;earthed": fracs(1, 1, 1, 2, 1, 3, 1, 6, 0, 1),
	} {
		if u, e := surge.FinalOf(ladder(t, s)); e != api.OK || !reflect.DeepEqual(u, want) {
			t.Error(s, u, e)
		}
	}
	if _, e := surge.FinalOf(ladder(t, heavy)); e != api.OK {
		t.Error(e)
	}
	refuse(t, "FinalOf", func(l api.SurgeLadder) (bool, api.Errno) {
		u, e := surge.FinalOf(l)
		return len(u) == 0, e
	})
}

// P4.2: worst gaps.
func TestWorstGap(t *testing.T) {
	for s, want := range map[string]struct {
		gap    int
		stress api.Frac
	}{
		earthed:                     {0, frac(3, 5)},
		open:                        {0, frac(1, 3)},
		"5;0;1;open":                {0, frac(0, 1)},
		"5;0;1;earthed":             {0, frac(1, 1)},
		"1,1;0,0;1,1;earthed":       {0, frac(1, 2)}, // the first of both
		"1,1,1;0,0,0;9,1,1;earthed": {0, frac(1, 3)},
		"2,1,1;0,0,0;9,1,1;earthed": {1, frac(2, 5)},
		"2,2,1;0,0,0;9,1,1;earthed": {2, frac(1, 2)},
		"1,2,1;0,0,0;9,1,1;earthed": {0, frac(2, 5)},
		"1,1,1;0,0,0;1,1,1;open":    {0, frac(0, 1)},
		"100,1;0,1;1,1;open":        {1, frac(100, 201)},
	} {
		if gap, stress, e := surge.WorstGap(ladder(t, s)); gap != want.gap || stress != want.stress || e != api.OK {
			t.Error(s, gap, stress, e)
		}
	}
	if gap, stress, e := surge.WorstGap(ladder(t, heavy)); gap != 0 || stress != (api.Frac{}) || e != api.ErrLarge {
		t.Error(gap, stress, e)
	}
	// the voltages are small enough, their difference is not
	l := ladder(t, "60,48,96,2,71,79;0,80,0,0,33,17;1,1,1,1,1,1;open")
	if u, e := surge.InitialOf(l); len(u) != 7 || e != api.OK {
		t.Error(u, e)
	}
	if gap, stress, e := surge.WorstGap(l); gap != 0 || stress != (api.Frac{}) || e != api.ErrLarge {
		t.Error(gap, stress, e)
	}
	refuse(t, "WorstGap", func(l api.SurgeLadder) (bool, api.Errno) {
		gap, stress, e := surge.WorstGap(l)
		return gap == 0 && stress == (api.Frac{}), e
	})
}

// P4.2: envelopes.
func TestEnvelopeOf(t *testing.T) {
	for s, want := range map[string][]api.Frac{
		earthed:                   fracs(1, 1, 11, 10, 0, 1),
		open:                      fracs(1, 1, 4, 3, 4, 3),
		"5;0;1;open":              fracs(1, 1, 1, 1),
		"5;5;1;open":              fracs(1, 1, 3, 2),
		"1,1;0,0;3,1;earthed":     fracs(1, 1, 1, 2, 0, 1), // 1/4 + (1/2 - 1/4)
		"99,1;0,0;1,1;earthed":    fracs(1, 1, 99, 100, 0, 1),
		"1,1;100,0;1,999;earthed": fracs(1, 1, 50699, 25500, 0, 1),
	} {
		if u, e := surge.EnvelopeOf(ladder(t, s)); e != api.OK || !reflect.DeepEqual(u, want) {
			t.Error(s, u, e)
		}
	}
	if u, e := surge.EnvelopeOf(ladder(t, heavy)); len(u) != 0 || e != api.ErrLarge {
		t.Error(u, e)
	}
	refuse(t, "EnvelopeOf", func(l api.SurgeLadder) (bool, api.Errno) {
		u, e := surge.EnvelopeOf(l)
		return len(u) == 0, e
	})
}

// P4.8: initial voltages do not increase, and are from 0 to 1; stresses add up to the whole.
func TestVoltagesAreBetween(t *testing.T) {
	r := numbers(2)
	for i := range 1000 {
		l := randomLadder(&r, []int{3, 10, 20}[i%3])
		u, e := surge.InitialOf(l)
		if e == api.ErrLarge {
			continue
		}
		sum := new(big.Rat)
		for j, f := range u {
			x := ratOf(f)
			if x.Sign() < 0 || x.Cmp(whole(1)) > 0 {
				t.Fatal(l, u)
			}
			if j > 0 {
				stress := minus(ratOf(u[j-1]), x)
				if stress.Sign() < 0 {
					t.Fatal(l, u)
				}
				sum = plus(sum, stress)
			}
		}
		if sum.Cmp(minus(ratOf(u[0]), ratOf(u[len(u)-1]))) != 0 {
			t.Fatal(l, u, sum)
		}
	}
}

// P4.8: without capacitances to earth an open ladder has the voltage 1 everywhere.
func TestWithoutEarth(t *testing.T) {
	r := numbers(3)
	for range 200 {
		l := randomLadder(&r, 100)
		l.Earthed = false
		clear(l.Earth)
		u, e := surge.InitialOf(l)
		if e != api.OK || len(u) != len(l.Series)+1 {
			t.Fatal(l, u, e)
		}
		for _, f := range u {
			if f != frac(1, 1) {
				t.Fatal(l, u)
			}
		}
	}
}

// The edge cases of the last node.
func TestLastNode(t *testing.T) {
	r := numbers(4)
	for range 300 {
		l := randomLadder(&r, 9)
		last := len(l.Series)
		if l.Earthed {
			before, _ := surge.InitialOf(l)
			l.Earth[last-1] = r.below(101)
			if u, e := surge.InitialOf(l); e != api.OK || !reflect.DeepEqual(u, before) {
				t.Fatal(l, u, before, e)
			}
			continue
		}
		l.Earth[last-1] = 0
		if u, e := surge.InitialOf(l); e != api.OK || u[last] != u[last-1] {
			t.Fatal(l, u, e)
		}
	}
}
