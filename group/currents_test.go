package group_test

import (
	"math/big"
	"testing"

	"buchholz/api"
	"buchholz/group"
)

func frac(num, den int) api.Frac {
	return api.Frac{Num: num, Den: den}
}

func source(p, q, num, den int) api.GroupSource {
	return api.GroupSource{Voltage: api.GroupPhasor{P: p, Q: q}, Impedance: frac(num, den)}
}

// realCurrent returns a current whose Q is 0.
func realCurrent(num, den int) api.GroupCurrent {
	return api.GroupCurrent{P: frac(num, den), Q: frac(0, 1)}
}

func equal(a, b []api.GroupCurrent) bool {
	if len(a) != len(b) {
		return false
	}
	for i := range a {
		if a[i] != b[i] {
			return false
		}
	}
	return true
}

// P1.7: the examples, and the edge cases that the chapter names.
func TestCurrentsOf(t *testing.T) {
	for _, x := range []struct {
		sources []api.GroupSource
		load    api.GroupPhasor
		want    []api.GroupCurrent
	}{
		{
			[]api.GroupSource{source(12, 0, 1, 1), source(12, 0, 2, 1)}, api.GroupPhasor{P: 3},
			[]api.GroupCurrent{realCurrent(2, 1), realCurrent(1, 1)},
		},
		{
			[]api.GroupSource{source(12, 0, 1, 1), source(9, 0, 1, 1)}, api.GroupPhasor{},
			[]api.GroupCurrent{realCurrent(3, 2), realCurrent(-3, 2)},
		},
		{
			[]api.GroupSource{source(-7, 5, 99, 100)}, api.GroupPhasor{P: 1000000, Q: -1000000},
			[]api.GroupCurrent{{P: frac(1000000, 1), Q: frac(-1000000, 1)}},
		},
		{
			[]api.GroupSource{source(0, 5, 1, 2), source(0, 2, 1, 3), source(0, 0, 1, 1)}, api.GroupPhasor{P: 6, Q: 1},
			[]api.GroupCurrent{{P: frac(2, 1), Q: frac(5, 1)}, {P: frac(3, 1), Q: frac(-3, 2)}, {P: frac(1, 1), Q: frac(-5, 2)}},
		},
		{
			[]api.GroupSource{source(1000000, 0, 1, 100), source(-1000000, 0, 1, 100)}, api.GroupPhasor{},
			[]api.GroupCurrent{realCurrent(100000000, 1), realCurrent(-100000000, 1)},
		},
	} {
		c, e := group.CurrentsOf(x.sources, x.load)
		if e != api.OK || !equal(c, x.want) {
			t.Error(x, c, e)
		}
		if i, e := group.CheckCurrents(x.sources, x.load, x.want); e != api.OK || i != 0 {
			t.Error(x, i, e)
		}
	}
}

type badSources struct {
	sources []api.GroupSource
	load    api.GroupPhasor
	want    api.Errno
}

func allBadSources() []badSources {
	good, load := source(1, 1, 1, 1), api.GroupPhasor{P: 1}
	far := api.GroupPhasor{P: api.MaxGroupPart + 1}
	l := []badSources{
		{nil, far, api.ErrShape},
		{[]api.GroupSource{}, load, api.ErrShape},
		{[]api.GroupSource{good, good, good, good, {}}, far, api.ErrLarge},
		{[]api.GroupSource{good}, far, api.ErrRange},
		{[]api.GroupSource{good}, api.GroupPhasor{Q: least}, api.ErrRange},
		{[]api.GroupSource{good, {Voltage: far}}, load, api.ErrRange},
		{[]api.GroupSource{good, {Voltage: far}, {}}, load, api.ErrRange},
		{[]api.GroupSource{good, {}, {Voltage: far}}, far, api.ErrForm},
	}
	for _, z := range badPhasors() {
		l = append(l, badSources{[]api.GroupSource{{Voltage: z, Impedance: frac(1, 1)}}, load, api.ErrRange})
	}
	for _, f := range []api.Frac{{}, {Num: 1}, {Num: 1, Den: -1}, {Num: 2, Den: 2}, {Num: 10, Den: 4}, {Den: 2}, {Num: least, Den: least}, {Num: least, Den: 2}, {Num: -102, Den: 200}} {
		l = append(l, badSources{[]api.GroupSource{{Impedance: f}}, load, api.ErrForm})
	}
	for _, f := range []api.Frac{{Den: 1}, {Num: -1, Den: 1}, {Num: 101, Den: 1}, {Num: 1, Den: 101}, {Num: least, Den: 1}, {Num: 1, Den: greatest}} {
		l = append(l, badSources{[]api.GroupSource{good, {Impedance: f}}, load, api.ErrRange})
	}
	return l
}

// P1.7: the errors of sources and of the load, of both functions.
func TestSourceErrors(t *testing.T) {
	for _, b := range allBadSources() {
		if c, e := group.CurrentsOf(b.sources, b.load); e != b.want || len(c) != 0 {
			t.Error(b, c, e)
		}
		if i, e := group.CheckCurrents(b.sources, b.load, make([]api.GroupCurrent, 9)); e != b.want || i != 0 {
			t.Error(b, i, e)
		}
	}
	for _, f := range []api.Frac{frac(1, 100), frac(100, 1), frac(99, 100), frac(100, 99)} {
		l := []api.GroupSource{source(1000000, -1000000, f.Num, f.Den)}
		if c, e := group.CurrentsOf(l, api.GroupPhasor{P: -1000000, Q: 1000000}); e != api.OK || !equal(c, []api.GroupCurrent{{P: frac(-1000000, 1), Q: frac(1000000, 1)}}) {
			t.Error(f, c, e)
		}
	}
}

// P1.7: a numerator beyond MaxPart, of either part, is too large; MaxPart itself is not. (Denominators cannot be.)
func TestCurrentsTooLarge(t *testing.T) {
	pair := func(p, q int) []api.GroupSource {
		return []api.GroupSource{source(p, q, 1, 64), source(0, 0, 1, 25)}
	}
	largest := []api.GroupCurrent{{P: frac(1000000000, 89), Q: frac(-1000000000, 89)}, {P: frac(-1000000000, 89), Q: frac(1000000000, 89)}}
	l := pair(625000, -625000)
	if c, e := group.CurrentsOf(l, api.GroupPhasor{}); e != api.OK || !equal(c, largest) {
		t.Error(c, e)
	}
	if i, e := group.CheckCurrents(l, api.GroupPhasor{}, largest); e != api.OK || i != 0 {
		t.Error(i, e)
	}
	for _, z := range [][2]int{{625001, 0}, {0, 625001}, {-625001, 0}, {0, -625001}} {
		if c, e := group.CurrentsOf(pair(z[0], z[1]), api.GroupPhasor{}); e != api.ErrLarge || len(c) != 0 {
			t.Error(z, c, e)
		}
	}
}

// bigCurrents solves for the currents of a part in fractions without limits.
func bigCurrents(voltages []int, impedances []api.Frac, load int) []*big.Rat {
	sum, bus := new(big.Rat), big.NewRat(-int64(load), 1)
	for i, v := range voltages {
		y := big.NewRat(int64(impedances[i].Den), int64(impedances[i].Num))
		sum.Add(sum, y)
		bus.Add(bus, new(big.Rat).Mul(y, big.NewRat(int64(v), 1)))
	}
	bus.Quo(bus, sum)
	var l []*big.Rat
	for i, v := range voltages {
		drop := new(big.Rat).Sub(big.NewRat(int64(v), 1), bus)
		l = append(l, drop.Mul(drop, big.NewRat(int64(impedances[i].Den), int64(impedances[i].Num))))
	}
	return l
}

// fits returns a fraction, if its parts are at most MaxPart.
func fits(r *big.Rat) (api.Frac, bool) {
	most := big.NewInt(api.MaxPart)
	if r.Num().CmpAbs(most) > 0 || r.Denom().Cmp(most) > 0 {
		return api.Frac{}, false
	}
	return frac(int(r.Num().Int64()), int(r.Denom().Int64())), true
}

// checkAgainstBig compares CurrentsOf with fractions without limits, and shows its result to CheckCurrents.
func checkAgainstBig(t *testing.T, l []api.GroupSource, load api.GroupPhasor) {
	t.Helper()
	var ps, qs []int
	var zs []api.Frac
	for _, s := range l {
		ps, qs, zs = append(ps, s.Voltage.P), append(qs, s.Voltage.Q), append(zs, s.Impedance)
	}
	all := true
	var want []api.GroupCurrent
	p, q := bigCurrents(ps, zs, load.P), bigCurrents(qs, zs, load.Q)
	for i := range l {
		a, aFits := fits(p[i])
		b, bFits := fits(q[i])
		all = all && aFits && bFits
		want = append(want, api.GroupCurrent{P: a, Q: b})
	}
	c, e := group.CurrentsOf(l, load)
	if !all {
		if e != api.ErrLarge || len(c) != 0 {
			t.Error(l, load, c, e)
		}
		return
	}
	if e != api.OK || !equal(c, want) {
		t.Error(l, load, c, e, want)
	}
	if i, e := group.CheckCurrents(l, load, want); e != api.OK || i != 0 {
		t.Error(l, load, i, e)
	}
}

// numbers returns a function that yields numbers below a bound that follow no simple rule, the same ones in each run.
func numbers() func(int) int {
	state := uint64(88172645463325252)
	return func(bound int) int {
		state ^= state << 13
		state ^= state >> 7
		state ^= state << 17
		return int(state % uint64(bound))
	}
}

// lowest returns an impedance in lowest terms.
func lowest(next func(int) int) api.Frac {
	for {
		f := frac(1+next(100), 1+next(100))
		if big.NewInt(0).GCD(nil, nil, big.NewInt(int64(f.Num)), big.NewInt(int64(f.Den))).Int64() == 1 {
			return f
		}
	}
}

// P1.7 and P1.14: sources of all sizes, compared with fractions without limits.
func TestCurrentsExactly(t *testing.T) {
	next := numbers()
	signed := func(most int) int { return next(2*most+1) - most }
	for range 20000 {
		most := []int{1, 10, 1000, api.MaxGroupPart}[next(4)]
		l := make([]api.GroupSource, 1+next(api.MaxGroupUnits))
		for i := range l {
			l[i] = api.GroupSource{Voltage: api.GroupPhasor{P: signed(most), Q: signed(most)}, Impedance: lowest(next)}
			if next(3) == 0 {
				l[i].Impedance = frac(1+next(4), 1)
			}
		}
		checkAgainstBig(t, l, api.GroupPhasor{P: signed(most), Q: signed(most)})
	}
}

// P1.7: the greatest voltages at the impedances by which intermediate numbers are greatest.
func TestCurrentsAtTheLimits(t *testing.T) {
	const most = api.MaxGroupPart
	for signs := range 32 {
		sign := func(bit int) int { return most * (1 - 2*(signs>>bit&1)) }
		for _, z := range [][4]api.Frac{
			{frac(1, 100), frac(1, 100), frac(1, 100), frac(1, 100)},
			{frac(100, 1), frac(100, 1), frac(100, 1), frac(100, 1)},
			{frac(99, 100), frac(99, 100), frac(99, 100), frac(99, 100)},
			{frac(1, 100), frac(99, 100), frac(97, 100), frac(89, 100)},
			{frac(1, 100), frac(100, 99), frac(100, 99), frac(100, 99)},
			{frac(100, 99), frac(100, 1), frac(99, 100), frac(1, 100)},
		} {
			l := make([]api.GroupSource, 4)
			for i := range l {
				l[i] = api.GroupSource{Voltage: api.GroupPhasor{P: sign(i), Q: -sign(i)}, Impedance: z[i]}
			}
			checkAgainstBig(t, l, api.GroupPhasor{P: sign(4), Q: -sign(4)})
		}
	}
}

// P1.7: the errors of CheckCurrents, with their indexes and in their order.
func TestCheckCurrents(t *testing.T) {
	l := []api.GroupSource{source(12, 0, 1, 1), source(12, 0, 2, 1)}
	two, one := realCurrent(2, 1), realCurrent(1, 1)
	const over = api.MaxPart + 1
	for _, x := range []struct {
		load     api.GroupPhasor
		currents []api.GroupCurrent
		index    int
		want     api.Errno
	}{
		{api.GroupPhasor{P: 3}, []api.GroupCurrent{two, one}, 0, api.OK},
		{api.GroupPhasor{P: 3}, nil, 0, api.ErrShape},
		{api.GroupPhasor{P: 3}, []api.GroupCurrent{{}}, 0, api.ErrShape},
		{api.GroupPhasor{P: 3}, []api.GroupCurrent{two, one, {}}, 0, api.ErrShape},
		{api.GroupPhasor{P: 3}, []api.GroupCurrent{{}, {}}, 0, api.ErrForm},
		{api.GroupPhasor{P: 3}, []api.GroupCurrent{two, realCurrent(2, 2)}, 1, api.ErrForm},
		{api.GroupPhasor{P: 3}, []api.GroupCurrent{two, realCurrent(-1, -1)}, 1, api.ErrForm},
		{api.GroupPhasor{P: 3}, []api.GroupCurrent{two, {P: frac(1, 1), Q: frac(0, 2)}}, 1, api.ErrForm},
		{api.GroupPhasor{P: 3}, []api.GroupCurrent{{P: frac(over, 1), Q: frac(least, least)}, one}, 0, api.ErrForm},
		{api.GroupPhasor{P: 3}, []api.GroupCurrent{realCurrent(over, 1), {}}, 0, api.ErrRange},
		{api.GroupPhasor{P: 3}, []api.GroupCurrent{two, realCurrent(-over, 1)}, 1, api.ErrRange},
		{api.GroupPhasor{P: 3}, []api.GroupCurrent{two, realCurrent(least, 1)}, 1, api.ErrRange},
		{api.GroupPhasor{P: 3}, []api.GroupCurrent{two, realCurrent(1, over)}, 1, api.ErrRange},
		{api.GroupPhasor{P: 3}, []api.GroupCurrent{two, {P: frac(1, 1), Q: frac(1, greatest)}}, 1, api.ErrRange},
		{api.GroupPhasor{P: 3}, []api.GroupCurrent{two, {P: frac(7, 1), Q: frac(over, 1)}}, 1, api.ErrRange},
		{api.GroupPhasor{P: 3}, []api.GroupCurrent{one, two}, 1, api.ErrProof},
		{api.GroupPhasor{P: 3}, []api.GroupCurrent{two, {P: frac(1, 1), Q: frac(1, 1)}}, 1, api.ErrProof},
		{api.GroupPhasor{P: 3}, []api.GroupCurrent{two, realCurrent(api.MaxPart, 1)}, 1, api.ErrProof},
		{api.GroupPhasor{P: 3}, []api.GroupCurrent{two, realCurrent(1, api.MaxPart)}, 1, api.ErrProof},
		{api.GroupPhasor{P: 4}, []api.GroupCurrent{two, one}, 0, api.ErrOpen},
		{api.GroupPhasor{P: 3, Q: 1}, []api.GroupCurrent{two, one}, 0, api.ErrOpen},
		{api.GroupPhasor{P: 3, Q: 3}, []api.GroupCurrent{{P: frac(2, 1), Q: frac(2, 1)}, {P: frac(1, 1), Q: frac(1, 1)}}, 0, api.OK},
	} {
		if i, e := group.CheckCurrents(l, x.load, x.currents); e != x.want || i != x.index {
			t.Error(x, i, e)
		}
	}
}

// P1.14: a sum that differs from the load by very little, or by a whole number, is not accepted, whichever current it is of.
func TestCheckCurrentsAddsExactly(t *testing.T) {
	single := []api.GroupSource{source(5, 5, 1, 1)}
	for _, f := range []api.Frac{frac(1, 1000000000), frac(-1, 1000000000), frac(999999999, 1000000000), frac(4, 1), frac(-4, 1), frac(1000000000, 1), frac(-1000000000, 1)} {
		for _, c := range []api.GroupCurrent{{P: f, Q: frac(0, 1)}, {P: frac(0, 1), Q: f}} {
			if i, e := group.CheckCurrents(single, api.GroupPhasor{}, []api.GroupCurrent{c}); e != api.ErrOpen || i != 0 {
				t.Error(c, i, e)
			}
		}
	}
	// The same error in each of four equal sources: all buses agree, the sum alone does not.
	equals := []api.GroupSource{source(9, 0, 1, 1), source(9, 0, 1, 1), source(9, 0, 1, 1), source(9, 0, 1, 1)}
	for _, x := range []struct {
		current api.Frac
		load    int
		want    api.Errno
	}{
		{frac(3, 4), 3, api.OK},
		{frac(-3, 4), -3, api.OK},
		{frac(1, 4), 1, api.OK},
		{frac(3, 4), 2, api.ErrOpen},
		{frac(3, 4), 4, api.ErrOpen},
		{frac(-3, 4), 3, api.ErrOpen},
		{frac(750000001, 1000000000), 3, api.ErrOpen},
		{frac(999999999, 1000000000), 4, api.ErrOpen},
		{frac(999999937, 999999938), 4, api.ErrOpen},
		{frac(1, 1), 4, api.OK},
		{frac(0, 1), 4, api.ErrOpen},
	} {
		c := api.GroupCurrent{P: x.current, Q: frac(0, 1)}
		if i, e := group.CheckCurrents(equals, api.GroupPhasor{P: x.load}, []api.GroupCurrent{c, c, c, c}); e != x.want || i != 0 {
			t.Error(x, i, e)
		}
	}
}

// P1.13 and P1.14: no load and equal voltages, equal sources, and n times everything.
func TestShares(t *testing.T) {
	idle := []api.GroupSource{source(7, -3, 1, 2), source(7, -3, 5, 3), source(7, -3, 100, 99)}
	if c, e := group.CurrentsOf(idle, api.GroupPhasor{}); e != api.OK || !equal(c, []api.GroupCurrent{realCurrent(0, 1), realCurrent(0, 1), realCurrent(0, 1)}) {
		t.Error(c, e)
	}
	alike := []api.GroupSource{source(7, -3, 5, 3), source(7, -3, 5, 3), source(7, -3, 5, 3)}
	share := api.GroupCurrent{P: frac(10, 3), Q: frac(-2, 1)}
	if c, e := group.CurrentsOf(alike, api.GroupPhasor{P: 10, Q: -6}); e != api.OK || !equal(c, []api.GroupCurrent{share, share, share}) {
		t.Error(c, e)
	}
	l := []api.GroupSource{source(12, 1, 3, 2), source(-9, 2, 1, 7)}
	load := api.GroupPhasor{P: 5, Q: -4}
	once, e := group.CurrentsOf(l, load)
	if e != api.OK {
		t.Fatal(e)
	}
	for i := range l {
		l[i].Voltage.P, l[i].Voltage.Q = 6*l[i].Voltage.P, 6*l[i].Voltage.Q
	}
	often, e := group.CurrentsOf(l, api.GroupPhasor{P: 30, Q: -24})
	if e != api.OK {
		t.Fatal(e)
	}
	for i := range l {
		if !sixTimes(once[i].P, often[i].P) || !sixTimes(once[i].Q, often[i].Q) {
			t.Error(once, often)
		}
	}
}

func sixTimes(a, b api.Frac) bool {
	return 6*a.Num*b.Den == b.Num*a.Den
}

// P1.14: no other currents: any change of a current is found.
func TestOtherCurrents(t *testing.T) {
	l := []api.GroupSource{source(12, 1, 3, 2), source(-9, 2, 1, 7), source(3, 3, 2, 5)}
	load := api.GroupPhasor{P: 5, Q: -4}
	c, e := group.CurrentsOf(l, load)
	if e != api.OK {
		t.Fatal(e)
	}
	for i := range c {
		for _, by := range []int{-1, 1} {
			for _, of := range []func(*api.GroupCurrent) *api.Frac{
				func(x *api.GroupCurrent) *api.Frac { return &x.P },
				func(x *api.GroupCurrent) *api.Frac { return &x.Q },
			} {
				other := append([]api.GroupCurrent(nil), c...)
				f := of(&other[i])
				f.Num += by * f.Den
				if _, e := group.CheckCurrents(l, load, other); e != api.ErrProof {
					t.Error(i, by, other, e)
				}
			}
		}
	}
}

// R3: arguments are not modified.
func TestCurrentsKeepArguments(t *testing.T) {
	l := []api.GroupSource{source(12, 0, 1, 1), source(9, 0, 1, 1)}
	c, _ := group.CurrentsOf(l, api.GroupPhasor{})
	before := append([]api.GroupCurrent(nil), c...)
	group.CheckCurrents(l, api.GroupPhasor{}, c)
	if l[0] != source(12, 0, 1, 1) || l[1] != source(9, 0, 1, 1) || !equal(c, before) {
		t.Error(l, c)
	}
}
