package group_test

import (
	"testing"

	"buchholz/api"
	"buchholz/group"
)

// P1.4: names and clock numbers.
func TestNameOf(t *testing.T) {
	for s, want := range map[string]string{
		"d+0/10 y+0/10 0":   "Dy11",
		"y+0/10 d+0/10 0":   "Yd1",
		"y+0/10 z+0/10 0":   "Yz11",
		"d+0/10 y-0/10 0":   "Dy5",
		"d+0/10 y+1/10 0":   "Dy3",
		"y+0/10 y+0/999 9":  "Yy0",
		"z+0/10 z-0/10 0":   "Zz6",
		"d+0/10 z+2/10 100": "Dz6",
		"d+1/10 d+0/10 0":   "Dd8",
		"z+0/1 d+0/2000 0":  "Zd2",
	} {
		n, e := group.NameOf(unit(t, s))
		if e != api.OK || n != want {
			t.Error(s, n, e)
		}
	}
	if n, e := group.ClockOf(unit(t, "d+0/10 y+0/10 0")); e != api.OK || n != 11 {
		t.Error(n, e)
	}
}

// P1.4: the errors of units, of every function of one.
func TestUnitErrors(t *testing.T) {
	for _, b := range badUnits() {
		if e := group.CheckUnit(b.unit); e != b.want {
			t.Error(b, e)
		}
		if n, e := group.ClockOf(b.unit); e != b.want || n != 0 {
			t.Error(b, n, e)
		}
		if s, e := group.NameOf(b.unit); e != b.want || s != "" {
			t.Error(b, s, e)
		}
		if f, e := group.RatioSquare(b.unit); e != b.want || f != (api.Frac{}) {
			t.Error(b, f, e)
		}
		if u, e := group.Tapped(b.unit, api.MaxGroupTap+1); e != b.want || u != (api.GroupUnit{}) {
			t.Error(b, u, e)
		}
	}
	for _, step := range []int{0, api.MaxGroupStep} {
		if e := group.CheckUnit(api.GroupUnit{High: star(1), Low: delta(2000), Step: step}); e != api.OK {
			t.Error(step, e)
		}
	}
}

// P1.4: ratio squares in lowest terms.
func TestRatioSquare(t *testing.T) {
	for s, want := range map[string]api.Frac{
		"d+0/400 y+0/231 5":  {Num: 160000, Den: 160083},
		"y+0/10 y-2/10 0":    {Num: 1, Den: 1},
		"y+0/10 d+0/10 0":    {Num: 3, Den: 1},
		"d+0/10 z+1/20 0":    {Num: 1, Den: 36},
		"z+0/2000 d+0/1 0":   {Num: 36000000, Den: 1},
		"z+0/2000 d+0/999 0": {Num: 4000000, Den: 110889},
	} {
		if f, e := group.RatioSquare(unit(t, s)); e != api.OK || f != want {
			t.Error(s, f, e)
		}
	}
}

// P1.4: LowFor is compared with all six windings of a kind, in their order.
func TestLowFor(t *testing.T) {
	for _, high := range allWindings() {
		for kind := range api.GroupKinds {
			for clock := range 12 {
				want, wanted := lowBySearch(high, kind, clock)
				w, e := group.LowFor(high, kind, clock)
				if w != want || wanted != (e == api.OK) || !wanted && e != api.ErrNone {
					t.Error(high, kind, clock, w, e)
				}
			}
		}
	}
	if w, e := group.LowFor(delta(10), api.GroupStar, 5); e != api.OK || w != (api.GroupWinding{Kind: api.GroupStar, Turns: 10, Reversed: true}) {
		t.Error(w, e)
	}
	if w, e := group.LowFor(delta(10), api.GroupStar, 3); e != api.OK || w != (api.GroupWinding{Kind: api.GroupStar, Turns: 10, Shift: 1}) {
		t.Error(w, e)
	}
}

func lowBySearch(high api.GroupWinding, kind, clock int) (api.GroupWinding, bool) {
	for i := range 6 {
		low := api.GroupWinding{Kind: kind, Turns: high.Turns, Shift: i % 3, Reversed: i >= 3}
		if n, _ := group.ClockOf(api.GroupUnit{High: high, Low: low}); n == clock {
			return low, true
		}
	}
	return api.GroupWinding{}, false
}

// P1.4: the errors of LowFor, in their order.
func TestLowForErrors(t *testing.T) {
	for _, x := range []struct {
		high        api.GroupWinding
		kind, clock int
		want        api.Errno
	}{
		{delta(0), 9, 12, api.ErrRange},
		{api.GroupWinding{Kind: 3, Turns: 1}, 0, 0, api.ErrKind},
		{delta(1), api.GroupKinds, 12, api.ErrKind},
		{delta(1), -1, 0, api.ErrKind},
		{delta(1), api.GroupStar, 12, api.ErrRange},
		{delta(1), api.GroupStar, -1, api.ErrRange},
		{delta(1), api.GroupStar, least, api.ErrRange},
		{delta(1), api.GroupStar, 4, api.ErrNone},
	} {
		if w, e := group.LowFor(x.high, x.kind, x.clock); e != x.want || w != (api.GroupWinding{}) {
			t.Error(x, w, e)
		}
	}
}

// P1.4: taps change the turns of the high-voltage winding alone, within their limits.
func TestTapped(t *testing.T) {
	for _, x := range []struct {
		s    string
		tap  int
		want string
		e    api.Errno
	}{
		{"d+0/400 y+0/231 5", -2, "d+0/390 y+0/231 5", api.OK},
		{"d-1/400 y+0/231 5", 40, "d-1/600 y+0/231 5", api.OK},
		{"d+0/400 y+0/231 0", 7, "d+0/400 y+0/231 0", api.OK},
		{"y+0/41 y+0/231 1", -40, "y+0/1 y+0/231 1", api.OK},
		{"y+0/40 y+0/231 1", -40, "", api.ErrRange},
		{"y+0/1996 y+0/231 2", 2, "y+0/2000 y+0/231 2", api.OK},
		{"y+0/1997 y+0/231 2", 2, "", api.ErrRange},
		{"y+0/1000 y+0/231 0", 41, "", api.ErrRange},
		{"y+0/1000 y+0/231 0", -41, "", api.ErrRange},
		{"y+0/1000 y+0/231 100", least, "", api.ErrRange},
	} {
		u, e := group.Tapped(unit(t, x.s), x.tap)
		if e != x.e || e == api.OK && group.FormatUnit(u) != x.want || e != api.OK && u != (api.GroupUnit{}) {
			t.Error(x, u, e)
		}
	}
}

// P1.10: even and odd clock numbers; of each kind LowFor finds windings for exactly six.
func TestEvenAndOdd(t *testing.T) {
	for _, u := range allUnits() {
		n, e := group.ClockOf(u)
		even := (u.High.Kind == api.GroupStar) == (u.Low.Kind == api.GroupStar)
		if e != api.OK || n < 0 || n > 11 || even != (n%2 == 0) {
			t.Error(u, n, e)
		}
	}
	for _, high := range allWindings() {
		for kind := range api.GroupKinds {
			found := 0
			for clock := range 12 {
				if _, e := group.LowFor(high, kind, clock); e == api.OK {
					found++
				}
			}
			if found != 6 {
				t.Error(high, kind, found)
			}
		}
	}
}

// P1.11: a shift of the low-voltage winding adds 4 to the clock number, a reversal 6.
func TestClockShifts(t *testing.T) {
	for _, u := range allUnits() {
		before, _ := group.ClockOf(u)
		shifted, reversed := u, u
		shifted.Low.Shift = (u.Low.Shift + 1) % 3
		reversed.Low.Reversed = !u.Low.Reversed
		if n, e := group.ClockOf(shifted); e != api.OK || n != (before+4)%12 {
			t.Error(u, before, n, e)
		}
		if n, e := group.ClockOf(reversed); e != api.OK || n != (before+6)%12 {
			t.Error(u, before, n, e)
		}
	}
}
