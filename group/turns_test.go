package group_test

import (
	"testing"

	"buchholz/api"
	"buchholz/group"
)

// apply returns what a turn makes of an angle.
func apply(a api.GroupTurn, h int) int {
	if a.Mirrored {
		return (a.Hours - h + 12) % 12
	}
	return (a.Hours + h) % 12
}

// P1.5: the composition is a, then b, for every angle.
func TestComposed(t *testing.T) {
	for _, a := range allTurns() {
		for _, b := range allTurns() {
			c, e := group.Composed(a, b)
			if e != api.OK || c.Hours < 0 || c.Hours > 11 {
				t.Fatal(a, b, c, e)
			}
			for h := range 12 {
				if apply(c, h) != apply(b, apply(a, h)) {
					t.Error(a, b, c, h)
				}
			}
		}
	}
	if c, e := group.Composed(api.GroupTurn{Hours: 3, Mirrored: true}, api.GroupTurn{Hours: 2}); e != api.OK || c != (api.GroupTurn{Hours: 5, Mirrored: true}) {
		t.Error(c, e)
	}
}

// P1.5 and P1.12: the inverse, on either side.
func TestInverse(t *testing.T) {
	for _, a := range allTurns() {
		i, e := group.Inverse(a)
		if e != api.OK {
			t.Fatal(a, e)
		}
		before, _ := group.Composed(i, a)
		after, _ := group.Composed(a, i)
		if none := (api.GroupTurn{}); before != none || after != none {
			t.Error(a, i, before, after)
		}
	}
	if i, e := group.Inverse(api.GroupTurn{Hours: 8}); e != api.OK || i != (api.GroupTurn{Hours: 4}) {
		t.Error(i, e)
	}
}

// P1.5: orders, counted by what a turn makes of all angles.
func TestOrderOf(t *testing.T) {
	for _, a := range allTurns() {
		if n, e := group.OrderOf(a); e != api.OK || n != orderByAngles(a) {
			t.Error(a, n, e)
		}
	}
	for _, x := range []struct {
		a    api.GroupTurn
		want int
	}{
		{api.GroupTurn{}, 1},
		{api.GroupTurn{Mirrored: true}, 2},
		{api.GroupTurn{Hours: 5, Mirrored: true}, 2},
		{api.GroupTurn{Hours: 8}, 3},
		{api.GroupTurn{Hours: 1}, 12},
		{api.GroupTurn{Hours: 6}, 2},
		{api.GroupTurn{Hours: 9}, 4},
	} {
		if n, e := group.OrderOf(x.a); e != api.OK || n != x.want {
			t.Error(x, n, e)
		}
	}
}

func orderByAngles(a api.GroupTurn) int {
	angles := [12]int{0, 1, 2, 3, 4, 5, 6, 7, 8, 9, 10, 11}
	first := angles
	for n := 1; ; n++ {
		for i := range angles {
			angles[i] = apply(a, angles[i])
		}
		if angles == first {
			return n
		}
	}
}

// P1.5: the errors of turns.
func TestTurnErrors(t *testing.T) {
	good := api.GroupTurn{Hours: 11, Mirrored: true}
	for _, h := range []int{-1, 12, least, greatest} {
		bad := api.GroupTurn{Hours: h}
		for _, x := range [][2]api.GroupTurn{{bad, good}, {good, bad}, {bad, bad}} {
			if c, e := group.Composed(x[0], x[1]); e != api.ErrRange || c != (api.GroupTurn{}) {
				t.Error(x, c, e)
			}
		}
		if i, e := group.Inverse(bad); e != api.ErrRange || i != (api.GroupTurn{}) {
			t.Error(h, i, e)
		}
		if n, e := group.OrderOf(bad); e != api.ErrRange || n != 0 {
			t.Error(h, n, e)
		}
	}
}

// P1.12: the turns are closed and associative, each one changes something different, and orders divide 24.
func TestTurnsAreAGroup(t *testing.T) {
	reached := map[api.GroupTurn]bool{}
	for _, a := range allTurns() {
		for _, b := range allTurns() {
			ab, _ := group.Composed(a, b)
			reached[ab] = true
			for _, c := range allTurns() {
				bc, _ := group.Composed(b, c)
				left, _ := group.Composed(ab, c)
				right, _ := group.Composed(a, bc)
				if left != right {
					t.Error(a, b, c, left, right)
				}
			}
		}
		if n, e := group.OrderOf(a); e != api.OK || 24%n != 0 {
			t.Error(a, n, e)
		}
	}
	if len(reached) != 24 {
		t.Error(len(reached))
	}
}
