package design_test

import (
	"slices"
	"testing"

	"buchholz/api"
	"buchholz/design"
)

// P2.7: the chapter's winding, and some at the limits.
func TestWindings(t *testing.T) {
	for _, x := range []struct {
		w      api.DesignWinding
		discs  []int
		length int
		fewest int
	}{
		{api.DesignWinding{Turns: 10, Discs: 4, Conductor: 5, Gap: 2}, []int{3, 3, 2, 2}, 26, 4},
		{api.DesignWinding{Turns: 12, Discs: 4, Conductor: 5}, []int{3, 3, 3, 3}, 20, 4},
		{api.DesignWinding{Turns: 1, Discs: 1, Conductor: 7, Gap: 1000}, []int{1}, 7, 1},
		{api.DesignWinding{Turns: 9, Discs: 5, Conductor: 1, Gap: 1}, []int{2, 2, 2, 2, 1}, 9, 5},
		{api.DesignWinding{Turns: 6, Discs: 5, Conductor: 1, Gap: 1}, []int{2, 1, 1, 1, 1}, 9, 3},
		{api.DesignWinding{Turns: 3, Discs: 3, Conductor: 1, Gap: 9}, []int{1, 1, 1}, 21, 3},
	} {
		if l, e := design.DiscsOf(x.w); e != api.OK || !slices.Equal(l, x.discs) {
			t.Error(x, l, e)
		}
		if n, e := design.LengthOf(x.w); e != api.OK || n != x.length {
			t.Error(x, n, e)
		}
		if n, e := design.FewestDiscs(x.w, api.MaxDesignValue); e != api.OK || n != x.fewest {
			t.Error(x, n, e)
		}
	}
	if n, e := design.FewestDiscs(api.DesignWinding{Turns: 9, Discs: 1, Conductor: 1}, 1); e != api.OK || n != 1 {
		t.Error(n, e)
	}
	most := api.DesignWinding{Turns: api.MaxDesignTurns, Discs: api.MaxDesignDiscs, Conductor: api.MaxDesignSize, Gap: api.MaxDesignSize}
	if n, e := design.LengthOf(most); e != api.OK || n != 999000 {
		t.Error(n, e)
	}
	if n, e := design.FewestDiscs(most, 999000); e != api.OK || n != 500 {
		t.Error(n, e)
	}
}

// P2.7: FewestDiscs is compared with all numbers of discs; its length is that of the fewest discs, not of the winding.
func TestFewestDiscs(t *testing.T) {
	for turns := 1; turns <= 60; turns++ {
		for discs := 1; discs <= turns; discs++ {
			w := api.DesignWinding{Turns: turns, Discs: discs, Conductor: 3, Gap: 2}
			l, _ := design.DiscsOf(w)
			fewest := w
			for fewest.Discs = 1; ; fewest.Discs++ {
				if m, _ := design.DiscsOf(fewest); slices.Max(m) <= slices.Max(l) {
					break
				}
			}
			length, _ := design.LengthOf(fewest)
			if n, e := design.FewestDiscs(w, length); e != api.OK || n != fewest.Discs {
				t.Error(w, n, e)
			}
			if n, e := design.FewestDiscs(w, length-1); e != api.ErrBreak || n != 0 {
				t.Error(w, n, e)
			}
		}
	}
}

// P2.15: the turns of all discs add up, those of two differ by at most one, and the first ones have more.
func TestTurnsAddUp(t *testing.T) {
	r := numbers(11)
	for range 500 {
		w := api.DesignWinding{Turns: 1 + r.below(api.MaxDesignTurns), Conductor: 1}
		w.Discs = 1 + r.below(min(w.Turns, api.MaxDesignDiscs))
		l, e := design.DiscsOf(w)
		sum := 0
		for _, n := range l {
			sum += n
		}
		if e != api.OK || len(l) != w.Discs || sum != w.Turns || slices.Max(l)-slices.Min(l) > 1 {
			t.Error(w, l, e)
		}
		if !slices.IsSortedFunc(l, func(a, b int) int { return b - a }) {
			t.Error(w, l)
		}
	}
}

// P2.7: the errors of windings come before those of the room.
func TestWindingErrors(t *testing.T) {
	for _, x := range []struct {
		w    api.DesignWinding
		want api.Errno
	}{
		{api.DesignWinding{Turns: 0, Discs: 1, Conductor: 1}, api.ErrRange},
		{api.DesignWinding{Turns: api.MaxDesignTurns + 1, Discs: 1, Conductor: 1}, api.ErrRange},
		{api.DesignWinding{Turns: least, Discs: 1, Conductor: 1}, api.ErrRange},
		{api.DesignWinding{Turns: 9, Discs: 0, Conductor: 1}, api.ErrRange},
		{api.DesignWinding{Turns: 9, Discs: -1, Conductor: 1}, api.ErrRange},
		{api.DesignWinding{Turns: 9, Discs: api.MaxDesignDiscs + 1, Conductor: 1}, api.ErrRange},
		{api.DesignWinding{Turns: 9, Discs: 10, Conductor: 0}, api.ErrRange},
		{api.DesignWinding{Turns: 9, Discs: 1, Conductor: api.MaxDesignSize + 1}, api.ErrRange},
		{api.DesignWinding{Turns: 9, Discs: 10, Conductor: 1, Gap: -1}, api.ErrRange},
		{api.DesignWinding{Turns: 9, Discs: 1, Conductor: 1, Gap: api.MaxDesignSize + 1}, api.ErrRange},
		{api.DesignWinding{Turns: 9, Discs: 1, Conductor: 1, Gap: greatest}, api.ErrRange},
		{api.DesignWinding{Turns: 9, Discs: 10, Conductor: 1}, api.ErrShape},
		{api.DesignWinding{Turns: 1, Discs: 2, Conductor: 1}, api.ErrShape},
	} {
		if l, e := design.DiscsOf(x.w); e != x.want || len(l) != 0 {
			t.Error(x, l, e)
		}
		if n, e := design.LengthOf(x.w); e != x.want || n != 0 {
			t.Error(x, n, e)
		}
		for _, room := range []int{0, 1} {
			if n, e := design.FewestDiscs(x.w, room); e != x.want || n != 0 {
				t.Error(x, room, n, e)
			}
		}
	}
	for _, room := range []int{0, -1, api.MaxDesignValue + 1, least, greatest} {
		if n, e := design.FewestDiscs(api.DesignWinding{Turns: 9, Discs: 3, Conductor: 9}, room); e != api.ErrRange || n != 0 {
			t.Error(room, n, e)
		}
	}
}
