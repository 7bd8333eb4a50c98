package wave_test

import (
	"math/big"
	"slices"
	"testing"

	"buchholz/api"
	"buchholz/wave"
)

// P8.1: records, up to the limits.
func TestCheckRecord(t *testing.T) {
	for _, x := range []api.WaveRecord{
		first(),
		record(1, 0, 0, 0),
		record(1000000, 4096, -4096, 0),
		record(5, make([]int, 64)...),
		record(5, slices.Repeat([]int{-4096}, 64)...),
	} {
		if e := wave.CheckRecord(x); e != api.OK {
			t.Error(x, e)
		}
	}
	r := numbers(1)
	for range 1000 {
		if x := r.impulse(); wave.CheckRecord(x) != api.OK {
			t.Fatal(x)
		}
	}
}

// P8.1: records that are not valid.
func TestCheckRecordErrors(t *testing.T) {
	for _, x := range badRecords() {
		if e := wave.CheckRecord(x.x); e != x.want {
			t.Error(x, e)
		}
	}
	for i := range 64 {
		x := record(1, make([]int, 64)...)
		for _, n := range []int{4097, -4097} {
			x.Samples[i] = n
			if e := wave.CheckRecord(x); e != api.ErrRange {
				t.Error(i, n, e)
			}
		}
	}
}

// P8.1: rules, up to the limits.
func TestCheckRules(t *testing.T) {
	one, widest := factor(1, 1, 1, 1), factor(1, 1000, 1000, 1)
	for _, r := range []api.WaveRules{
		plain(0),
		plain(100),
		rules(1, widest),
		rules(1, factor(1000, 999, 999, 998)),
		rules(1, factor(999, 1000, 999, 1000)),
		rules(100, one, widest, widest, widest, widest),
		rules(0, factor(2, 3, 2, 3), one, factor(1, 3, 1, 2)),
		{Factors: one, Chain: []api.Span{}},
	} {
		if e := wave.CheckRules(r); e != api.OK {
			t.Error(r, e)
		}
	}
	r := numbers(2)
	for range 1000 {
		if x := r.rules(100); wave.CheckRules(x) != api.OK {
			t.Fatal(x)
		}
	}
}

// P8.1: rules that are not valid, and what all functions with rules return.
func TestRulesErrors(t *testing.T) {
	bad := record(0)
	for _, x := range badRules() {
		if e := wave.CheckRules(x.r); e != x.want {
			t.Error(x, e)
		}
		if s, e := wave.ScaleOf(x.r); s != (api.Span{}) || e != x.want {
			t.Error(x, s, e)
		}
		if i, p, e := wave.PeakOf(x.r, bad); i != 0 || p != (api.Range{}) || e != x.want {
			t.Error(x, i, p, e)
		}
		if f, e := wave.FiguresOf(x.r, bad); f != (api.WaveFigures{}) || e != x.want {
			t.Error(x, f, e)
		}
		if f, e := wave.FiguresOf(x.r, first()); f != (api.WaveFigures{}) || e != x.want {
			t.Error(x, f, e)
		}
		if v, e := wave.VoltageOf(x.r, firstFigures()); v != (api.Range{}) || e != x.want {
			t.Error(x, v, e)
		}
		if v, e := wave.VoltageOf(x.r, api.WaveFigures{At: -1}); v != (api.Range{}) || e != x.want {
			t.Error(x, v, e)
		}
		if s, e := wave.FactorsOf(x.r, bad, bad); s != (api.Span{}) || e != x.want {
			t.Error(x, s, e)
		}
		if a, e := wave.DifferenceOf(x.r, bad, bad); a != 0 || e != x.want {
			t.Error(x, a, e)
		}
		if l, e := wave.WitnessOf(x.r, bad, bad); len(l) != 0 || e != x.want {
			t.Error(x, l, e)
		}
		if i, e := wave.CheckWitness(x.r, api.WavePair{}, []int{0, -1}); i != 0 || e != x.want {
			t.Error(x, i, e)
		}
	}
}

// scaleBy returns the scale without limits.
func scaleBy(r api.WaveRules) [2]*big.Rat {
	scale := [2]*big.Rat{rat(1), rat(1)}
	for _, f := range r.Chain {
		scale[0] = times(scale[0], ratOf(f.Lo))
		scale[1] = times(scale[1], ratOf(f.Hi))
	}
	return scale
}

// isLarge returns whether a part of a number exceeds 10^9.
func isLarge(x *big.Rat) bool {
	limit := big.NewInt(1000000000)
	return x.Num().Cmp(limit) > 0 || x.Denom().Cmp(limit) > 0
}

// P8.1: the scale, and chains whose scale has parts that are too large, or just are not.
func TestScaleOf(t *testing.T) {
	one, thousand, thousandth := factor(1, 1, 1, 1), factor(1000, 1, 1000, 1), factor(1, 1000, 1, 1000)
	for _, x := range []struct {
		chain []api.Span
		want  api.Span
		e     api.Errno
	}{
		{nil, one, api.OK},
		{[]api.Span{factor(2, 1, 5, 2)}, factor(2, 1, 5, 2), api.OK},
		{[]api.Span{factor(2, 1, 5, 2), factor(1, 2, 2, 1)}, factor(1, 1, 5, 1), api.OK},
		{[]api.Span{factor(2, 3, 3, 4), factor(3, 5, 2, 3), one, factor(5, 7, 6, 7)}, factor(2, 7, 3, 7), api.OK},
		{[]api.Span{thousand, thousand, thousand}, factor(1000000000, 1, 1000000000, 1), api.OK},
		{[]api.Span{thousandth, thousandth, thousandth}, factor(1, 1000000000, 1, 1000000000), api.OK},
		{[]api.Span{thousand, thousand, thousand, factor(999, 1000, 1, 1)}, factor(999000000, 1, 1000000000, 1), api.OK},
		{[]api.Span{thousand, thousand, thousandth, thousandth}, one, api.OK},
		{[]api.Span{thousand, thousand, thousand, factor(1, 1, 1001, 1000)}, api.Span{}, api.ErrRange},
		{[]api.Span{thousand, thousand, thousand, factor(1, 1, 1000, 999)}, api.Span{}, api.ErrLarge},
		{[]api.Span{thousand, thousand, thousand, factor(1, 3, 1, 1)}, factor(1000000000, 3, 1000000000, 1), api.OK},
		{[]api.Span{thousandth, thousandth, thousandth, factor(999, 1000, 1, 1)}, api.Span{}, api.ErrLarge}, // the lower end alone
		{[]api.Span{thousandth, thousandth, thousandth, factor(1, 2, 1, 1)}, api.Span{}, api.ErrLarge},
		{[]api.Span{thousand, thousand, thousand, thousand}, api.Span{}, api.ErrLarge},
		{[]api.Span{thousandth, thousandth, thousandth, thousandth}, api.Span{}, api.ErrLarge},
		{[]api.Span{factor(1, 1000, 1000, 1), factor(1, 1000, 1000, 1), factor(1, 1000, 1000, 1)}, factor(1, 1000000000, 1000000000, 1), api.OK},
	} {
		if s, e := wave.ScaleOf(rules(1, one, x.chain...)); s != x.want || e != x.e {
			t.Error(x, s, e)
		}
	}
	r := numbers(3)
	large := 0
	for range 5000 {
		x := r.rules(100)
		want := scaleBy(x)
		s, e := wave.ScaleOf(x)
		if isLarge(want[0]) || isLarge(want[1]) {
			large++
			if s != (api.Span{}) || e != api.ErrLarge {
				t.Fatal(x, s, e)
			}
		} else if e != api.OK || !isRat(s.Lo, want[0]) || !isRat(s.Hi, want[1]) {
			t.Fatal(x, s, e)
		}
	}
	if large < 100 || large > 4000 {
		t.Error(large)
	}
}
