package field_test

import (
	"testing"

	"buchholz/api"
	"buchholz/field"
)

// primes is a network whose energy is too large for a fraction.
const primes = "2,0 1 19 50,0 1 17 49,0 1 13 48,0 1 11 47,0 1 7 46,0 1 5 -45,0 1 3 -44"

func guess(den int, values ...int) api.FieldGuess {
	return api.FieldGuess{Den: den, Values: values}
}

// P3.3: the energies of the examples, and of networks without loops.
func TestEnergyOf(t *testing.T) {
	for s, want := range map[string]api.Frac{
		ring:                 {Num: 20, Den: 1},
		third:                {Num: 200, Den: 9},
		"1":                  {Num: 0, Den: 1},
		"2,0 1 1 50":         {Num: 0, Den: 1},
		"3,0 1 3 0,1 0 7 0":  {Num: 0, Den: 1},
		"2,0 1 1 1,0 1 1 -1": {Num: 2, Den: 1},
		"2,0 1 1 1,0 1 1 1":  {Num: 0, Den: 1},
	} {
		if x, e := field.EnergyOf(net(t, s)); e != api.OK || x != want {
			t.Error(s, x, e)
		}
	}
	if x, e := field.EnergyOf(net(t, primes)); e != api.ErrLarge || x != (api.Frac{}) {
		t.Error(x, e)
	}
	refuse(t, "EnergyOf", func(n api.FieldNet) (bool, api.Errno) {
		x, e := field.EnergyOf(n)
		return x == api.Frac{}, e
	})
}

// P3.3: the energy of all kinds of networks.
func TestEnergyBySum(t *testing.T) {
	r := numbers(21)
	large := 0
	for range 3000 {
		n := randomNet(&r, 20)
		x, e := field.EnergyOf(n)
		checkFrac(t, x, e, energyBySum(n), n)
		if e == api.ErrLarge {
			large++
		}
	}
	if large == 0 {
		t.Error("no energy is too large")
	}
}

// P3.3: upper bounds of the examples, of guesses that are not reduced, and with all potentials of a part moved.
func TestUpperBound(t *testing.T) {
	for _, x := range []struct {
		net   string
		guess api.FieldGuess
		want  api.Frac
	}{
		{ring, guess(1, 0, 0), api.Frac{Num: 100, Den: 3}},
		{ring, guess(100, 0, 0), api.Frac{Num: 100, Den: 3}},
		{ring, guess(1, 1000, 1000), api.Frac{Num: 100, Den: 3}},
		{ring, guess(1, 0, 4), api.Frac{Num: 20, Den: 1}},
		{ring, guess(3, 0, 12), api.Frac{Num: 20, Den: 1}},
		{ring, guess(2, -1000, -992), api.Frac{Num: 20, Den: 1}},
		{ring, guess(1, 4, 0), api.Frac{Num: 220, Den: 3}},
		{ring, guess(2, 0, 1), api.Frac{Num: 2*361 + 3, Den: 24}}, // (19/2)^2 / 3 + (1/2)^2 / 2
		{"1", guess(1, 1000), api.Frac{Num: 0, Den: 1}},
		{"2,0 1 1 50", guess(1, 1000, -1000), api.Frac{Num: 2050 * 2050, Den: 1}},
		{"2,0 1 9 -43,0 1 11 -41,0 1 17 -32", guess(77, 1000, -594), api.Frac{Num: api.MaxPart, Den: 9 * 11 * 17 * 77 * 77}},
	} {
		if b, e := field.UpperBound(net(t, x.net), x.guess); e != api.OK || b != x.want {
			t.Error(x, b, e)
		}
	}
	for _, x := range badGuesses(2) {
		if b, e := field.UpperBound(net(t, ring), x.guess); e != x.want || b != (api.Frac{}) {
			t.Error(x, b, e)
		}
	}
	small := "2,0 1 19 0,0 1 17 0,0 1 13 0,0 1 11 0,0 1 7 0" // of this one the bound is small, and only Den too large
	for _, s := range []string{primes, small} {
		if b, e := field.UpperBound(net(t, s), guess(97, 0, 1)); e != api.ErrLarge || b != (api.Frac{}) {
			t.Error(s, b, e)
		}
	}
	refuse(t, "UpperBound", func(n api.FieldNet) (bool, api.Errno) {
		b, e := field.UpperBound(n, api.FieldGuess{})
		return b == api.Frac{}, e
	})
}

// P3.3: lower bounds of the examples, and fluxes that are not balanced.
func TestLowerBound(t *testing.T) {
	for _, x := range []struct {
		net   string
		guess api.FieldGuess
		want  api.Frac
	}{
		{ring, guess(1, 1, 1), api.Frac{Num: 15, Den: 1}},
		{ring, guess(2, 2, 2), api.Frac{Num: 15, Den: 1}},
		{ring, guess(1, 2, 2), api.Frac{Num: 20, Den: 1}},
		{ring, guess(50, 100, 100), api.Frac{Num: 20, Den: 1}},
		{ring, guess(3, -1, -1), api.Frac{Num: -65, Den: 9}},
		{ring, guess(1, 1000, 1000), api.Frac{Num: 20000 - 5000000, Den: 1}},
		{ring, guess(100, 0, 0), api.Frac{Num: 0, Den: 1}},
		{third, guess(9, 20, 15, -5), api.Frac{Num: 200, Den: 9}},
		{third, guess(1, 1, 2, 1), api.Frac{Num: 20 - 3 - 8 - 6, Den: 1}},
		{"1", guess(7), api.Frac{Num: 0, Den: 1}},
		{"2,0 1 1 50", guess(7, 0), api.Frac{Num: 0, Den: 1}},
	} {
		if b, e := field.LowerBound(net(t, x.net), x.guess); e != api.OK || b != x.want {
			t.Error(x, b, e)
		}
	}
	for _, x := range append(badGuesses(3), []badGuess{
		{guess(9, 20, 15, 5), api.ErrGap},
		{guess(1, 1, -1, 0), api.ErrGap},
		{guess(1, 0, 0, -1), api.ErrGap},
	}...) {
		if b, e := field.LowerBound(net(t, third), x.guess); e != x.want || b != (api.Frac{}) {
			t.Error(x, b, e)
		}
	}
	if b, e := field.LowerBound(net(t, "5,2 3 1 0,3 4 1 0"), guess(1, 1, 1)); e != api.ErrGap || b != (api.Frac{}) {
		t.Error(b, e)
	}
	refuse(t, "LowerBound", func(n api.FieldNet) (bool, api.Errno) {
		b, e := field.LowerBound(n, api.FieldGuess{})
		return b == api.Frac{}, e
	})
}

// P3.3, P3.9: both bounds are what their definitions say, and enclose the energy.
func TestBothSides(t *testing.T) {
	r := numbers(22)
	large, lowers := 0, 0
	for range 3000 {
		n := randomNet(&r, []int{4, 20}[r.below(2)])
		energy := energyBySum(n)
		potentials := guess(r.from(1, 100), randomList(&r, n.Nodes, -1000, 1000)...)
		upper, e := field.UpperBound(n, potentials)
		checkFrac(t, upper, e, upperBySum(n, potentials), n, potentials)
		if e == api.ErrLarge {
			large++
		} else if ratOf(upper).Cmp(energy) < 0 {
			t.Fatal(n, potentials, upper, energy)
		}
		if fluxes, is := randomFluxes(&r, n); is {
			lowers++
			lower, e := field.LowerBound(n, fluxes)
			checkFrac(t, lower, e, lowerBySum(n, fluxes), n, fluxes)
			if ratOf(lower).Cmp(energy) > 0 {
				t.Fatal(n, fluxes, lower, energy)
			}
		}
	}
	if large == 0 || lowers < 500 {
		t.Error(large, lowers)
	}
}

// P3.9: for the solution both bounds are the energy.
func TestBoundsOfSolution(t *testing.T) {
	r := numbers(23)
	found := 0
	for range 3000 {
		n := randomNet(&r, 3)
		s, _ := field.SolutionOf(n)
		energy, e := field.EnergyOf(n)
		upper, f := field.UpperBound(n, api.FieldGuess{Den: s.Den, Values: s.Potentials})
		lower, g := field.LowerBound(n, api.FieldGuess{Den: s.Den, Values: s.Fluxes})
		if f == api.ErrRange || g == api.ErrRange {
			continue
		}
		found++
		if e != api.OK || f != api.OK || g != api.OK || upper != energy || lower != energy {
			t.Fatal(n, energy, upper, lower, e, f, g)
		}
	}
	if found < 500 {
		t.Error(found)
	}
}

// P3.4: the span of the examples, and of errors.
func TestEnergySpan(t *testing.T) {
	for _, x := range []struct {
		net    string
		ranges []api.Range
		want   api.Span
	}{
		{ring, []api.Range{{Lo: 2, Hi: 4}, {Lo: 1, Hi: 2}}, api.Span{Lo: api.Frac{Num: 50, Den: 3}, Hi: api.Frac{Num: 100, Den: 3}}},
		{ring, []api.Range{{Lo: 3, Hi: 3}, {Lo: 2, Hi: 2}}, api.Span{Lo: api.Frac{Num: 20, Den: 1}, Hi: api.Frac{Num: 20, Den: 1}}},
		{ring, []api.Range{{Lo: 1, Hi: 20}, {Lo: 1, Hi: 20}}, api.Span{Lo: api.Frac{Num: 5, Den: 2}, Hi: api.Frac{Num: 50, Den: 1}}},
		{"1", nil, api.Span{Lo: api.Frac{Num: 0, Den: 1}, Hi: api.Frac{Num: 0, Den: 1}}},
	} {
		if s, e := field.EnergySpan(net(t, x.net), x.ranges); e != api.OK || s != x.want {
			t.Error(x, s, e)
		}
	}
	for _, x := range allBadRanges() {
		if s, e := field.EnergySpan(net(t, third), x.ranges); e != x.want || s != (api.Span{}) {
			t.Error(x, s, e)
		}
	}
	refuse(t, "EnergySpan", func(n api.FieldNet) (bool, api.Errno) {
		s, e := field.EnergySpan(n, []api.Range{{}})
		return s == api.Span{}, e
	})
}

// P3.4: an end that is too large, the lower or the upper one.
func TestEnergySpanLarge(t *testing.T) {
	n := net(t, primes)
	var ones, same, twenties []api.Range
	for _, b := range n.Branches {
		ones = append(ones, api.Range{Lo: 1, Hi: b.Reluctance})
		same = append(same, api.Range{Lo: 1, Hi: 1})
		twenties = append(twenties, api.Range{Lo: b.Reluctance, Hi: 20})
	}
	for i, l := range [][]api.Range{ones, twenties, same} {
		s, e := field.EnergySpan(n, l)
		if (e == api.ErrLarge) != (i < 2) || e != api.OK && s != (api.Span{}) {
			t.Error(l, s, e)
		}
	}
}

// P3.4: the enclosures of the examples, and errors in their order.
func TestCheckEnclosure(t *testing.T) {
	n, l := net(t, ring), []api.Range{{Lo: 2, Hi: 4}, {Lo: 1, Hi: 2}}
	want := api.Span{Lo: api.Frac{Num: 16, Den: 1}, Hi: api.Frac{Num: 34, Den: 1}}
	x := api.FieldGuesses{Potentials: guess(1, 0, 4), Fluxes: guess(1, 2, 2)}
	if s, e := field.CheckEnclosure(n, l, x); e != api.OK || s != want {
		t.Error(s, e)
	}
	for _, bad := range badGuesses(2) {
		for _, y := range []api.FieldGuesses{{Potentials: bad.guess, Fluxes: x.Fluxes}, {Potentials: bad.guess, Fluxes: guess(0)}, {Potentials: x.Potentials, Fluxes: bad.guess}} {
			if s, e := field.CheckEnclosure(n, l, y); e != bad.want || s != (api.Span{}) {
				t.Error(y, s, e)
			}
		}
	}
	y := api.FieldGuesses{Potentials: x.Potentials, Fluxes: guess(1, 2, 1)}
	if s, e := field.CheckEnclosure(n, l, y); e != api.ErrGap || s != (api.Span{}) {
		t.Error(s, e)
	}
	for _, bad := range allBadRanges() {
		if s, e := field.CheckEnclosure(net(t, third), bad.ranges, api.FieldGuesses{}); e != bad.want || s != (api.Span{}) {
			t.Error(bad, s, e)
		}
	}
	refuse(t, "CheckEnclosure", func(n api.FieldNet) (bool, api.Errno) {
		s, e := field.CheckEnclosure(n, []api.Range{{}}, api.FieldGuesses{})
		return s == api.Span{}, e
	})
}

// P3.4: an upper bound that is too large, with fluxes that are balanced or not.
func TestCheckEnclosureLarge(t *testing.T) {
	n := net(t, primes)
	var l []api.Range
	for _, b := range n.Branches {
		l = append(l, api.Range{Lo: b.Reluctance, Hi: 20})
	}
	x := api.FieldGuesses{Potentials: guess(97, 0, 1), Fluxes: guess(1, make([]int, 7)...)}
	if s, e := field.CheckEnclosure(n, l, x); e != api.ErrLarge || s != (api.Span{}) {
		t.Error(s, e)
	}
	x.Fluxes.Values[3] = 1
	if s, e := field.CheckEnclosure(n, l, x); e != api.ErrGap || s != (api.Span{}) {
		t.Error(s, e)
	}
}

// P3.4, P3.10: for all reluctances within ranges the energy lies in both enclosures; greater ones give no greater energy.
func TestEveryMaterial(t *testing.T) {
	r := numbers(24)
	spans, enclosures := 0, 0
	for range 1500 {
		n := randomNet(&r, 20)
		var l []api.Range
		var lows, middles, highs []int
		for range n.Branches {
			lo := r.from(1, 6)
			hi := r.from(lo, 6)
			l = append(l, api.Range{Lo: lo, Hi: hi})
			lows, middles, highs = append(lows, lo), append(middles, r.from(lo, hi)), append(highs, hi)
		}
		energy := energyBySum(withReluctances(n, middles))
		low, high := energyBySum(withReluctances(n, highs)), energyBySum(withReluctances(n, lows))
		s, e := field.EnergySpan(n, l)
		if e == api.OK {
			spans++
			if ratOf(s.Lo).Cmp(low) != 0 || ratOf(s.Hi).Cmp(high) != 0 || energy.Cmp(low) < 0 || energy.Cmp(high) > 0 {
				t.Fatal(n, l, middles, s, low, energy, high)
			}
		} else if e != api.ErrLarge {
			t.Fatal(n, l, e)
		}
		fluxes, is := randomFluxes(&r, n)
		if !is {
			continue
		}
		x := api.FieldGuesses{Potentials: guess(r.from(1, 9), randomList(&r, n.Nodes, -100, 100)...), Fluxes: fluxes}
		if s, e = field.CheckEnclosure(n, l, x); e == api.ErrLarge {
			continue
		}
		enclosures++
		low, high = lowerBySum(withReluctances(n, highs), x.Fluxes), upperBySum(withReluctances(n, lows), x.Potentials)
		if e != api.OK || ratOf(s.Lo).Cmp(low) != 0 || ratOf(s.Hi).Cmp(high) != 0 || energy.Cmp(low) < 0 || energy.Cmp(high) > 0 {
			t.Fatal(n, l, x, s, low, energy, high, e)
		}
	}
	if spans < 500 || enclosures < 200 {
		t.Error(spans, enclosures)
	}
}
