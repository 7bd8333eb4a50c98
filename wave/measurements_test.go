package wave_test

import (
	"math/big"
	"testing"

	"buchholz/api"
	"buchholz/wave"
)

// P8.5: the fifth example, and ratios in lowest terms, up to the limits.
func TestRatioOf(t *testing.T) {
	const most = 1000000000
	for _, x := range []struct {
		high, low api.Range
		want      api.Span
	}{
		{span(100, 102), span(10, 11), factor(100, 11, 51, 5)},
		{span(1, 1), span(1, 1), factor(1, 1, 1, 1)},
		{span(10, 20), span(5, 10), factor(1, 1, 4, 1)},
		{span(6, 6), span(9, 9), factor(2, 3, 2, 3)},
		{span(1, most), span(1, most), factor(1, most, most, 1)},
		{span(most-1, most), span(most-1, most), factor(most-1, most, most, most-1)},
	} {
		if s, e := wave.RatioOf(x.high, x.low); s != x.want || e != api.OK {
			t.Error(x, s, e)
		}
	}
	r := numbers(16)
	for range 5000 {
		high, low := r.between(1, r.oneOf(9, 1000, most)), r.between(1, r.oneOf(9, 1000, most))
		s, e := wave.RatioOf(high, low)
		if e != api.OK || !isRat(s.Lo, over(rat(high.Lo), rat(low.Hi))) || !isRat(s.Hi, over(rat(high.Hi), rat(low.Lo))) {
			t.Fatal(high, low, s, e)
		}
	}
}

// P8.5: ranges of a ratio that are not valid.
func TestRatioErrors(t *testing.T) {
	const most = 1000000000
	for x, want := range map[api.Range]api.Errno{
		{}:                    api.ErrRange,
		span(0, 1):            api.ErrRange,
		span(-1, 1):           api.ErrRange,
		span(1, 0):            api.ErrRange, // before the order
		span(2, -1):           api.ErrRange,
		span(1, most+1):       api.ErrRange,
		span(most+1, 1):       api.ErrRange,
		span(least, greatest): api.ErrRange,
		span(greatest, least): api.ErrRange,
		span(2, 1):            api.ErrOrder,
		span(most, most-1):    api.ErrOrder,
	} {
		for _, other := range []api.Range{span(1, 2), span(2, 1), span(0, 0)} {
			if s, e := wave.RatioOf(x, other); s != (api.Span{}) || e != want {
				t.Error(x, other, s, e)
			}
		}
		if s, e := wave.RatioOf(span(1, 2), x); s != (api.Span{}) || e != want {
			t.Error(x, s, e)
		}
	}
}

// resistanceBy returns a resistance at another temperature, without limits.
func resistanceBy(r, from, to int) *big.Rat {
	return times(rat(r), over(rat(2350+to), rat(2350+from)))
}

// P8.5: the sixth example, and resistances up to the limits of fractions.
func TestResistanceAt(t *testing.T) {
	for _, x := range []struct {
		r, from, to int
		want        api.Frac
		e           api.Errno
	}{
		{100, 200, 750, frac(6200, 51), api.OK},
		{100, 750, 200, frac(2550, 31), api.OK},
		{1, 0, 0, frac(1, 1), api.OK},
		{1, -500, 3000, frac(107, 37), api.OK},
		{1, 3000, -500, frac(37, 107), api.OK},
		{1000000, -500, 3000, frac(107000000, 37), api.OK},
		{1000000, 3000, -500, frac(37000000, 107), api.OK},
		{999999, -499, 3000, api.Frac{}, api.ErrLarge},
		{500000, 1, -350, frac(1000000000, 2351), api.OK},
		{500001, 1, -350, frac(1000002000, 2351), api.ErrLarge},
		{500001, 0, 0, frac(500001, 1), api.OK},
	} {
		want := x.want
		if x.e != api.OK {
			want = api.Frac{}
		}
		if f, e := wave.ResistanceAt(x.r, x.from, x.to); f != want || e != x.e {
			t.Error(x, f, e)
		}
	}
	r := numbers(17)
	large := 0
	for range 5000 {
		n, from, to := r.from(1, r.oneOf(10, 1000, 1000000)), r.from(-500, 3000), r.from(-500, 3000)
		want := resistanceBy(n, from, to)
		f, e := wave.ResistanceAt(n, from, to)
		if isLarge(want) {
			large++
			if f != (api.Frac{}) || e != api.ErrLarge {
				t.Fatal(n, from, to, f, e)
			}
		} else if e != api.OK || !isRat(f, want) {
			t.Fatal(n, from, to, f, e)
		}
	}
	if large < 100 {
		t.Error(large)
	}
}

// P8.5: resistances and temperatures outside their ranges.
func TestResistanceErrors(t *testing.T) {
	for _, n := range []int{0, -1, 1000001, greatest, least} {
		if f, e := wave.ResistanceAt(n, 200, 750); f != (api.Frac{}) || e != api.ErrRange {
			t.Error(n, f, e)
		}
	}
	for _, n := range []int{-501, -2350, 3001, greatest, least} {
		if f, e := wave.ResistanceAt(100, n, 750); f != (api.Frac{}) || e != api.ErrRange {
			t.Error(n, f, e)
		}
		if f, e := wave.ResistanceAt(1000000, 200, n); f != (api.Frac{}) || e != api.ErrRange {
			t.Error(n, f, e)
		}
	}
}

// P8.10: the resistance at the same temperature, and the loss without a phase error.
func TestThereAndBack(t *testing.T) {
	r := numbers(18)
	for range 3000 {
		n, at := r.from(1, 1000000), r.from(-500, 3000)
		if f, e := wave.ResistanceAt(n, at, at); f != frac(n, 1) || e != api.OK {
			t.Fatal(n, at, f, e)
		}
		active, reactive := r.from(0, 1000000000), r.from(-1000000000, 1000000000)
		if l, e := wave.LossOf(active, reactive, span(0, 0)); l != span(active, active) || e != api.OK {
			t.Fatal(active, reactive, l, e)
		}
	}
}

// lossBy returns the loss for a phase error.
func lossBy(active, reactive, phase int) *big.Rat {
	return plus(rat(active), times(rat(-reactive), big.NewRat(int64(phase), 1000000)))
}

// P8.5: the seventh example, phase errors below and above 0, reactive powers below 0, and the limits.
func TestLossOf(t *testing.T) {
	const most = 1000000000
	for _, x := range []struct {
		active, reactive int
		phase, want      api.Range
	}{
		{1000, 500000, span(100, 300), span(850, 950)},
		{1000, -500000, span(100, 300), span(1050, 1150)},
		{1000, 500000, span(-300, -100), span(1050, 1150)},
		{1000, 500000, span(-100, 300), span(850, 1050)}, // less, or greater
		{1000, -500000, span(-100, 300), span(950, 1150)},
		{1000, 500000, span(100, 100), span(950, 950)},
		{1000, 0, span(-100000, 100000), span(1000, 1000)},
		{0, 1, span(1, 1), span(-1, 0)}, // rounded down and up
		{0, 1, span(-1, -1), span(0, 1)},
		{0, -1, span(-1, 1), span(-1, 1)},
		{5, 1, span(0, 1), span(4, 5)},
		{5, 3, span(-100000, 100000), span(4, 6)},
		{0, most, span(-100000, 100000), span(-100000000, 100000000)},
		{most, most, span(-100000, 100000), span(900000000, 1100000000)},
		{most, -most, span(99999, 100000), span(1099999000, 1100000000)},
	} {
		if l, e := wave.LossOf(x.active, x.reactive, x.phase); l != x.want || e != api.OK {
			t.Error(x, l, e)
		}
	}
	r := numbers(19)
	for range 5000 {
		size := r.oneOf(10, 100000, most)
		active, reactive, phase := r.from(0, size), r.from(-size, size), r.between(-r.oneOf(5, 100000), 100)
		l, e := wave.LossOf(active, reactive, phase)
		isOK(t, e)
		a, b := lossBy(active, reactive, phase.Lo), lossBy(active, reactive, phase.Hi)
		if l.Lo != min(floorOf(a), floorOf(b)) || l.Hi != max(ceilOf(a), ceilOf(b)) {
			t.Fatal(active, reactive, phase, l)
		}
		inside := lossBy(active, reactive, r.from(phase.Lo, phase.Hi))
		if l.Lo > floorOf(inside) || l.Hi < ceilOf(inside) {
			t.Fatal(active, reactive, phase, l, inside)
		}
	}
}

// P8.5: powers and phase errors outside their ranges, and phase errors in the wrong order.
func TestLossErrors(t *testing.T) {
	const most = 1000000000
	for _, x := range []struct {
		active, reactive int
		phase            api.Range
		want             api.Errno
	}{
		{-1, 0, span(0, 0), api.ErrRange},
		{most + 1, 0, span(0, 0), api.ErrRange},
		{greatest, 0, span(0, 0), api.ErrRange},
		{least, 0, span(0, 0), api.ErrRange},
		{0, most + 1, span(0, 0), api.ErrRange},
		{0, -most - 1, span(0, 0), api.ErrRange},
		{0, greatest, span(0, 0), api.ErrRange},
		{0, least, span(0, 0), api.ErrRange},
		{0, 0, span(-100001, 0), api.ErrRange},
		{0, 0, span(0, 100001), api.ErrRange},
		{0, 0, span(100001, 0), api.ErrRange}, // before the order
		{0, 0, span(0, -100001), api.ErrRange},
		{0, 0, span(greatest, least), api.ErrRange},
		{-1, 0, span(1, 0), api.ErrRange},
		{0, most + 1, span(1, 0), api.ErrRange},
		{0, 0, span(1, 0), api.ErrOrder},
		{most, -most, span(100000, -100000), api.ErrOrder},
	} {
		if l, e := wave.LossOf(x.active, x.reactive, x.phase); l != (api.Range{}) || e != x.want {
			t.Error(x, l, e)
		}
	}
}

// endBy returns the end temperature.
func endBy(x, y, z int) *big.Rat {
	last := rat(z - y)
	return plus(rat(z), over(times(last, last), rat(y-x-(z-y))))
}

// P8.5: the eighth example, temperatures that rise no more, and the limits.
func TestEndOf(t *testing.T) {
	for _, x := range []struct {
		x    [3]int
		e    int
		want api.Span
		err  api.Errno
	}{
		{[3]int{200, 300, 350}, 0, factor(400, 1, 400, 1), api.OK},
		{[3]int{200, 300, 350}, 1, factor(1175, 3, 9425, 23), api.OK},
		{[3]int{200, 300, 300}, 0, factor(300, 1, 300, 1), api.OK}, // it has ended
		{[3]int{200, 300, 300}, 1, api.Span{}, api.ErrOpen},
		{[3]int{200, 300, 302}, 1, factor(301, 1, 14249, 47), api.OK}, // 302 - 300 - 2 is 0
		{[3]int{200, 300, 301}, 1, api.Span{}, api.ErrOpen},
		{[3]int{200, 300, 299}, 0, api.Span{}, api.ErrOpen},
		{[3]int{300, 300, 300}, 0, api.Span{}, api.ErrOpen}, // equal temperatures
		{[3]int{200, 250, 300}, 0, api.Span{}, api.ErrOpen}, // equal steps
		{[3]int{200, 250, 299}, 0, factor(2700, 1, 2700, 1), api.OK},
		{[3]int{200, 250, 296}, 1, api.Span{}, api.ErrOpen}, // 50 - 46 - 4 is 0
		{[3]int{200, 250, 295}, 1, factor(294*9+43*43, 9, 296+47*47, 1), api.OK},
		{[3]int{200, 250, 310}, 0, api.Span{}, api.ErrOpen}, // it rises more and more
		{[3]int{300, 200, 100}, 0, api.Span{}, api.ErrOpen},
		{[3]int{300, 200, 150}, 0, api.Span{}, api.ErrOpen},
		{[3]int{-500, 3000, 3000}, 0, factor(3000, 1, 3000, 1), api.OK},
		{[3]int{-500, 2000, 2200}, 100, factor(2100, 1, 2300*19+1600, 19), api.OK},
		{[3]int{-500, -500, -500}, 0, api.Span{}, api.ErrOpen},
		{[3]int{-500, 1250, 2999}, 0, factor(2999+1749*1749, 1, 2999+1749*1749, 1), api.OK},
	} {
		if s, e := wave.EndOf(x.x, x.e); s != x.want || e != x.err {
			t.Error(x, s, e)
		}
	}
	r := numbers(20)
	open := 0
	for range 5000 {
		x, e := r.warming(), r.oneOf(0, 1, 5, 100)
		s, err := wave.EndOf(x, e)
		if x[2]-x[1]-2*e < 0 || x[1]-x[0]-(x[2]-x[1])-4*e <= 0 {
			open++
			if s != (api.Span{}) || err != api.ErrOpen {
				t.Fatal(x, e, s, err)
			}
		} else if err != api.OK || !isRat(s.Lo, endBy(x[0]-e, x[1]+e, x[2]-e)) || !isRat(s.Hi, endBy(x[0]+e, x[1]-e, x[2]+e)) {
			t.Fatal(x, e, s, err)
		}
	}
	if open < 1000 || open > 4000 {
		t.Error(open)
	}
}

// warming returns three temperatures of which the last ones are often close to each other.
func (r *numbers) warming() [3]int {
	x := r.from(-500, 1000)
	y := x + r.from(-10, r.oneOf(20, 200, 1000))
	return [3]int{max(x, -500), max(y, -500), max(-500, y+r.from(-10, r.oneOf(10, 100, 1000)))}
}

// P8.5: temperatures and errors outside their ranges.
func TestEndErrors(t *testing.T) {
	for _, n := range []int{-501, 3001, greatest, least} {
		for i := range 3 {
			for _, e := range []int{0, -1} {
				x := [3]int{200, 300, 350}
				x[i] = n
				if s, e := wave.EndOf(x, e); s != (api.Span{}) || e != api.ErrRange {
					t.Error(x, s, e)
				}
			}
		}
	}
	for _, e := range []int{-1, 101, greatest, least} {
		for _, x := range [][3]int{{200, 300, 350}, {300, 300, 300}} {
			if s, e := wave.EndOf(x, e); s != (api.Span{}) || e != api.ErrRange {
				t.Error(x, s, e)
			}
		}
	}
}

// P8.11: the enclosure contains the end temperature of all whole temperatures that differ by at most the error; without one both ends are equal.
func TestEndEncloses(t *testing.T) {
	r := numbers(21)
	found := 0
	for range 2000 {
		x, e := r.warming(), r.from(0, 3)
		s, err := wave.EndOf(x, e)
		if err != api.OK {
			continue
		}
		found++
		if e == 0 && s.Lo != s.Hi {
			t.Fatal(x, s)
		}
		lo, hi := ratOf(s.Lo), ratOf(s.Hi)
		if lo.Cmp(rat(x[2]-e)) < 0 {
			t.Fatal(x, e, s)
		}
		for i := range (2*e + 1) * (2*e + 1) * (2*e + 1) {
			n := 2*e + 1
			end := endBy(x[0]-e+i%n, x[1]-e+i/n%n, x[2]-e+i/n/n)
			if end.Cmp(lo) < 0 || end.Cmp(hi) > 0 {
				t.Fatal(x, e, s, end)
			}
		}
	}
	if found < 500 {
		t.Error(found)
	}
}
