package group_test

import (
	"testing"

	"buchholz/api"
	"buchholz/group"
)

// P1.3: products, whose parts may be beyond the limit.
func TestProduct(t *testing.T) {
	const most = api.MaxGroupPart
	for _, x := range []struct{ a, b, want api.GroupPhasor }{
		{api.GroupPhasor{P: 1}, api.GroupPhasor{P: 5, Q: -7}, api.GroupPhasor{P: 5, Q: -7}},
		{api.GroupPhasor{Q: 1}, api.GroupPhasor{Q: 1}, api.GroupPhasor{P: -1, Q: -1}},
		{api.GroupPhasor{Q: 1}, api.GroupPhasor{P: -1, Q: -1}, api.GroupPhasor{P: 1}},
		{api.GroupPhasor{P: 2, Q: 3}, api.GroupPhasor{P: 5, Q: 7}, api.GroupPhasor{P: -11, Q: 8}},
		{api.GroupPhasor{P: most, Q: most}, api.GroupPhasor{P: -most, Q: most}, api.GroupPhasor{P: -2 * most * most, Q: -most * most}},
	} {
		for _, z := range [][2]api.GroupPhasor{{x.a, x.b}, {x.b, x.a}} {
			if p, e := group.Product(z[0], z[1]); e != api.OK || p != x.want {
				t.Error(x, p, e)
			}
		}
	}
}

// P1.3: the square of the size.
func TestSquareOf(t *testing.T) {
	const most = api.MaxGroupPart
	for _, x := range []struct {
		z    api.GroupPhasor
		want int
	}{
		{api.GroupPhasor{P: 20, Q: 10}, 300},
		{api.GroupPhasor{P: 30, Q: 30}, 900},
		{api.GroupPhasor{P: 3, Q: -5}, 49},
		{api.GroupPhasor{}, 0},
		{api.GroupPhasor{P: most, Q: -most}, 3 * most * most},
	} {
		if n, e := group.SquareOf(x.z); e != api.OK || n != x.want {
			t.Error(x, n, e)
		}
	}
}

// P1.3: hours, by a turn of an hour at a time: the product with 2 + w, whose size does not matter.
func TestHoursOf(t *testing.T) {
	z := api.GroupPhasor{P: 1}
	for h := range 12 {
		for _, n := range []int{1, 2, 35, 3000} {
			x := api.GroupPhasor{P: n * z.P, Q: n * z.Q}
			if got, e := group.HoursOf(x); e != api.OK || got != h {
				t.Error(x, h, got, e)
			}
		}
		z, _ = group.Product(z, api.GroupPhasor{P: 2, Q: 1})
		if z.P%3 == 0 && z.Q%3 == 0 {
			z = api.GroupPhasor{P: z.P / 3, Q: z.Q / 3}
		}
	}
	if z != (api.GroupPhasor{P: 1}) {
		t.Error("twelve hours are no turn", z)
	}
	for _, x := range []api.GroupPhasor{{P: 3, Q: 1}, {P: 1, Q: 3}, {P: 2, Q: -1}, {P: -1, Q: 2}, {P: -3, Q: -1}, {P: 999999, Q: 1000000}, {P: 5, Q: 2}} {
		if h, e := group.HoursOf(x); e != api.ErrNone || h != 0 {
			t.Error(x, h, e)
		}
	}
	if h, e := group.HoursOf(api.GroupPhasor{}); e != api.ErrZero || h != 0 {
		t.Error(h, e)
	}
	if h, e := group.HoursOf(api.GroupPhasor{P: api.MaxGroupPart, Q: -api.MaxGroupPart}); e != api.OK || h != 11 {
		t.Error(h, e)
	}
}

// P1.3: the errors of phasors, the first one's and the second one's.
func TestPhasorErrors(t *testing.T) {
	for _, z := range badPhasors() {
		for _, x := range [][2]api.GroupPhasor{{z, {P: 1}}, {{P: 1}, z}, {z, z}} {
			if p, e := group.Product(x[0], x[1]); e != api.ErrRange || p != (api.GroupPhasor{}) {
				t.Error(x, p, e)
			}
		}
		if n, e := group.SquareOf(z); e != api.ErrRange || n != 0 {
			t.Error(z, n, e)
		}
		if h, e := group.HoursOf(z); e != api.ErrRange || h != 0 {
			t.Error(z, h, e)
		}
	}
}
