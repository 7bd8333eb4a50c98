package surge_test

import (
	"math/big"
	"reflect"
	"testing"

	"buchholz/api"
	"buchholz/surge"
)

// fourth is the impulse of the example 4.
func fourth() api.SurgeImpulse {
	return points(0, 0, 2, 100, 50, 50, 200, 0)
}

// twelve is an impulse with as many points as possible.
func twelve() api.SurgeImpulse {
	var x api.SurgeImpulse
	for i := range api.MaxSurgePoints {
		x.Points = append(x.Points, api.SurgePoint{Time: 2 * i, Voltage: i})
	}
	return x
}

// valueBySum returns the value of an impulse at a time.
func valueBySum(x api.SurgeImpulse, time int) *big.Rat {
	if time < x.Points[0].Time {
		return new(big.Rat)
	}
	value := whole(x.Points[0].Voltage)
	for i, p := range x.Points[1:] {
		from := x.Points[i]
		if time > from.Time {
			part := rat(min(time, p.Time)-from.Time, p.Time-from.Time)
			value = plus(value, times(part, whole(p.Voltage-from.Voltage)))
		}
	}
	return value
}

// floor returns a number rounded down.
func floor(x *big.Rat) int {
	return int(new(big.Int).Div(x.Num(), x.Denom()).Int64())
}

// P4.4: impulses at their limits.
func TestCheckImpulse(t *testing.T) {
	for _, x := range []api.SurgeImpulse{
		fourth(),
		twelve(),
		points(0, 1000000, 1000000, -1000000),
		points(999999, -1000000, 1000000, 1000000),
		points(0, 0, 1, 0),
	} {
		if i, e := surge.CheckImpulse(x); i != 0 || e != api.OK {
			t.Error(x, i, e)
		}
	}
	for _, x := range badImpulses() {
		if i, e := surge.CheckImpulse(x.impulse); i != x.index || e != x.want {
			t.Error(x, i, e)
		}
	}
}

// P4.4: full impulses.
func TestFullImpulse(t *testing.T) {
	for _, x := range []struct {
		peak, front, tail int
		want              api.SurgeImpulse
		e                 api.Errno
	}{
		{100, 2, 50, fourth(), api.OK},
		{101, 1, 2, points(0, 0, 1, 101, 2, 50, 8, 0), api.OK},
		{-101, 1, 2, points(0, 0, 1, -101, 2, -51, 8, 0), api.OK},
		{-1, 1, 2, points(0, 0, 1, -1, 2, -1, 8, 0), api.OK},
		{-100, 1, 2, points(0, 0, 1, -100, 2, -50, 8, 0), api.OK},
		{0, 1, 2, points(0, 0, 1, 0, 2, 0, 8, 0), api.OK},
		{1000000, 99999, 100000, points(0, 0, 99999, 1000000, 100000, 500000, 400000, 0), api.OK},
		{-1000000, 1, 100000, points(0, 0, 1, -1000000, 100000, -500000, 400000, 0), api.OK},
		{1000001, 2, 50, api.SurgeImpulse{}, api.ErrRange},
		{-1000001, 50, 2, api.SurgeImpulse{}, api.ErrRange},
		{least, 2, 50, api.SurgeImpulse{}, api.ErrRange},
		{greatest, 2, 50, api.SurgeImpulse{}, api.ErrRange},
		{100, 0, 50, api.SurgeImpulse{}, api.ErrRange},
		{100, -1, 50, api.SurgeImpulse{}, api.ErrRange},
		{100, 0, 0, api.SurgeImpulse{}, api.ErrRange},
		{100, 2, 0, api.SurgeImpulse{}, api.ErrRange},
		{100, 2, 100001, api.SurgeImpulse{}, api.ErrRange},
		{100, 100001, 100000, api.SurgeImpulse{}, api.ErrRange},
		{100, least, greatest, api.SurgeImpulse{}, api.ErrRange},
		{100, 50, 50, api.SurgeImpulse{}, api.ErrOrder},
		{100, 50, 49, api.SurgeImpulse{}, api.ErrOrder},
		{100, 100000, 1, api.SurgeImpulse{}, api.ErrOrder},
	} {
		if got, e := surge.FullImpulse(x.peak, x.front, x.tail); e != x.e || !reflect.DeepEqual(got, x.want) {
			t.Error(x, got, e)
		}
	}
}

// P4.4: chopped impulses.
func TestChopped(t *testing.T) {
	for _, x := range []struct {
		x        api.SurgeImpulse
		at, fall int
		want     api.SurgeImpulse
	}{
		{fourth(), 26, 3, points(0, 0, 2, 100, 26, 75, 29, 0)},
		{fourth(), 1, 1, points(0, 0, 1, 50, 2, 0)},
		{fourth(), 2, 1, points(0, 0, 2, 100, 3, 0)}, // the point at this time is the new one
		{fourth(), 27, 9, points(0, 0, 2, 100, 27, 73, 36, 0)},
		{fourth(), 50, 9, points(0, 0, 2, 100, 50, 50, 59, 0)},
		{fourth(), 200, 100000, points(0, 0, 2, 100, 50, 50, 200, 0, 100200, 0)},
		{points(0, 0, 2, -1), 1, 5, points(0, 0, 1, -1, 6, 0)},
		{points(0, 0, 2, 1), 1, 5, points(0, 0, 1, 0, 6, 0)},
		{points(5, 7, 8, 8), 6, 5, points(5, 7, 6, 7, 11, 0)},
		{points(5, 7, 8, 8), 8, 5, points(5, 7, 8, 8, 13, 0)},
		{points(999997, 7, 999999, 8), 999999, 1, points(999997, 7, 999999, 8, 1000000, 0)},
		{points(0, 7, 1000000, 8), 900000, 100000, points(0, 7, 900000, 7, 1000000, 0)},
		{twelve(), 20, 1, points(0, 0, 2, 1, 4, 2, 6, 3, 8, 4, 10, 5, 12, 6, 14, 7, 16, 8, 18, 9, 20, 10, 21, 0)},
	} {
		if got, e := surge.Chopped(x.x, x.at, x.fall); e != api.OK || !reflect.DeepEqual(got, x.want) {
			t.Error(x, got, e)
		}
	}
}

// P4.4: the errors of chopped impulses.
func TestChoppedErrors(t *testing.T) {
	late := points(5, 7, 1000000, 8)
	for _, x := range []struct {
		x        api.SurgeImpulse
		at, fall int
		want     api.Errno
	}{
		{fourth(), 0, 3, api.ErrRange},
		{fourth(), -1, 3, api.ErrRange},
		{fourth(), 201, 3, api.ErrRange},
		{fourth(), least, 3, api.ErrRange},
		{fourth(), greatest, 3, api.ErrRange},
		{fourth(), 26, 0, api.ErrRange},
		{fourth(), 26, -1, api.ErrRange},
		{fourth(), 26, 100001, api.ErrRange},
		{fourth(), 26, least, api.ErrRange},
		{fourth(), 26, greatest, api.ErrRange},
		{late, 5, 3, api.ErrRange},
		{late, 1000001, 3, api.ErrRange},
		{late, 1000000, 100001, api.ErrRange},
		{late, 1000000, 1, api.ErrLarge},
		{late, 900001, 100000, api.ErrLarge},
		{twelve(), 21, 1, api.ErrLarge},
		{twelve(), 22, 1, api.ErrLarge},
		{twelve(), 23, 1, api.ErrRange},
	} {
		if got, e := surge.Chopped(x.x, x.at, x.fall); e != x.want || len(got.Points) != 0 {
			t.Error(x, got, e)
		}
	}
	for _, x := range badImpulses() {
		if got, e := surge.Chopped(x.impulse, least, least); e != x.want || len(got.Points) != 0 {
			t.Error(x, got, e)
		}
	}
}

// P4.4: values.
func TestValueAt(t *testing.T) {
	begun := points(5, 7, 8, 8)
	for _, x := range []struct {
		x    api.SurgeImpulse
		time int
		want api.Frac
		e    api.Errno
	}{
		{fourth(), 0, frac(0, 1), api.OK},
		{fourth(), 1, frac(50, 1), api.OK},
		{fourth(), 2, frac(100, 1), api.OK},
		{fourth(), 26, frac(75, 1), api.OK},
		{fourth(), 27, frac(1775, 24), api.OK},
		{fourth(), 50, frac(50, 1), api.OK},
		{fourth(), 199, frac(1, 3), api.OK},
		{fourth(), 200, frac(0, 1), api.OK},
		{fourth(), 1000000, frac(0, 1), api.OK},
		{begun, 0, frac(0, 1), api.OK}, // though it begins with 7
		{begun, 4, frac(0, 1), api.OK},
		{begun, 5, frac(7, 1), api.OK},
		{begun, 6, frac(22, 3), api.OK},
		{begun, 9, frac(8, 1), api.OK},
		{begun, 1000000, frac(8, 1), api.OK},
		{points(0, 0, 2, -3), 1, frac(-3, 2), api.OK},
		{points(0, 0, 1000000, 1), 1, frac(1, 1000000), api.OK},
		{points(0, 999, 1000000, 1000), 1, frac(999000001, 1000000), api.OK},
		{points(0, 1000, 1000000, 1001), 1, api.Frac{}, api.ErrLarge},
		{points(0, -1000, 1000000, -1001), 1, api.Frac{}, api.ErrLarge},
		{points(0, 1000000, 1000000, 999999), 999999, api.Frac{}, api.ErrLarge},
		{fourth(), -1, api.Frac{}, api.ErrRange},
		{fourth(), 1000001, api.Frac{}, api.ErrRange},
		{fourth(), least, api.Frac{}, api.ErrRange},
		{fourth(), greatest, api.Frac{}, api.ErrRange},
	} {
		if got, e := surge.ValueAt(x.x, x.time); e != x.e || got != x.want {
			t.Error(x, got, e)
		}
	}
	for _, x := range badImpulses() {
		if got, e := surge.ValueAt(x.impulse, -1); e != x.want || got != (api.Frac{}) {
			t.Error(x, got, e)
		}
	}
}

// P4.4: the steepest pieces.
func TestSteepestOf(t *testing.T) {
	for _, x := range []struct {
		x     api.SurgeImpulse
		index int
		want  api.Frac
	}{
		{fourth(), 0, frac(50, 1)},
		{points(0, 0, 1, 0, 2, 0), 0, frac(0, 1)},
		{points(0, 0, 1, 0, 3, 1), 1, frac(1, 2)},
		{points(0, 0, 2, 1, 3, 0, 4, 1), 1, frac(1, 1)},
		{points(0, 0, 2, 4, 3, 2, 5, 6), 0, frac(2, 1)}, // the first of three
		{points(0, 0, 3, 1, 6, -1), 1, frac(2, 3)},
		{points(0, 1000000, 1, -1000000), 0, frac(2000000, 1)},
		{points(0, 0, 1000000, 1), 0, frac(1, 1000000)},
		{points(0, 0, 500001, 500000, 1000000, 999998), 0, frac(500000, 500001)},
		{points(0, 0, 499999, 499998, 1000000, 999998), 1, frac(500000, 500001)},
		{points(0, 0, 500000, 499998, 1000000, 999997), 1, frac(499999, 500000)},
	} {
		if i, got, e := surge.SteepestOf(x.x); i != x.index || got != x.want || e != api.OK {
			t.Error(x, i, got, e)
		}
	}
	for _, x := range badImpulses() {
		if i, got, e := surge.SteepestOf(x.impulse); i != 0 || got != (api.Frac{}) || e != x.want {
			t.Error(x, i, got, e)
		}
	}
}

// P4.4: values and slopes of many impulses.
func TestImpulses(t *testing.T) {
	r := numbers(9)
	for range 500 {
		x := randomImpulse(&r)
		last := x.Points[len(x.Points)-1].Time
		for range 20 {
			time := r.below(last + 2)
			got, e := surge.ValueAt(x, time)
			var l []api.Frac
			if e == api.OK {
				l = append(l, got)
			}
			checkFracs(t, l, e, []*big.Rat{valueBySum(x, time)}, false, x, time)
		}
		first, most := 0, new(big.Rat)
		for i, p := range x.Points[1:] {
			from := x.Points[i]
			if s := size(rat(p.Voltage-from.Voltage, p.Time-from.Time)); s.Cmp(most) > 0 {
				first, most = i, s
			}
		}
		if i, got, e := surge.SteepestOf(x); i != first || !isRat(got, most) || e != api.OK {
			t.Fatal(x, i, got, e, first, most)
		}
	}
}

// P4.4, P4.13: at its points before it is chopped an impulse keeps its values, then it has the value there, rounded down, and after the fall it is 0.
func TestChoppedKeepsValues(t *testing.T) {
	r := numbers(10)
	for range 1000 {
		x := randomImpulse(&r)
		begin, end := x.Points[0].Time, x.Points[len(x.Points)-1].Time
		at, fall := r.from(begin+1, end), r.from(1, 100000)
		c, e := surge.Chopped(x, at, fall)
		kept := 0
		for _, p := range x.Points {
			if p.Time < at {
				kept++
			}
		}
		if at+fall > api.MaxSurgeTime || kept+2 > api.MaxSurgePoints {
			if e != api.ErrLarge || len(c.Points) != 0 {
				t.Fatal(x, at, fall, c, e)
			}
			continue
		}
		if i, bad := surge.CheckImpulse(c); e != api.OK || bad != api.OK || len(c.Points) != kept+2 {
			t.Fatal(x, at, fall, c, e, i, bad)
		}
		for _, p := range x.Points[:kept] {
			if got, e := surge.ValueAt(c, p.Time); got != frac(p.Voltage, 1) || e != api.OK {
				t.Fatal(x, c, p, got, e)
			}
		}
		want := frac(floor(valueBySum(x, at)), 1)
		if got, e := surge.ValueAt(c, at); got != want || e != api.OK {
			t.Fatal(x, c, got, want, e)
		}
		for _, time := range []int{at + fall, r.from(at+fall, 1000000), 1000000} {
			if got, e := surge.ValueAt(c, time); got != frac(0, 1) || e != api.OK {
				t.Fatal(x, c, time, got, e)
			}
		}
	}
}
