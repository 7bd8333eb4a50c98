package group_test

import (
	"testing"

	"buchholz/api"
	"buchholz/group"
)

// P1.1: the lines of each kind, of shifts and of reversed windings.
func TestLinesOf(t *testing.T) {
	for _, x := range []struct {
		winding api.GroupWinding
		want    api.GroupLines
	}{
		{star(10), api.GroupLines{{10, -10, 0}, {0, 10, -10}, {-10, 0, 10}}},
		{delta(10), api.GroupLines{{10, 0, 0}, {0, 10, 0}, {0, 0, 10}}},
		{zigzag(10), api.GroupLines{{10, -20, 10}, {10, 10, -20}, {-20, 10, 10}}},
		{api.GroupWinding{Kind: api.GroupStar, Turns: 7, Shift: 1}, api.GroupLines{{0, 7, -7}, {-7, 0, 7}, {7, -7, 0}}},
		{api.GroupWinding{Kind: api.GroupDelta, Turns: 2000, Shift: 2, Reversed: true}, api.GroupLines{{0, 0, -2000}, {-2000, 0, 0}, {0, -2000, 0}}},
		{api.GroupWinding{Kind: api.GroupZigzag, Turns: 1, Shift: 2, Reversed: true}, api.GroupLines{{2, -1, -1}, {-1, 2, -1}, {-1, -1, 2}}},
	} {
		if l, e := group.LinesOf(x.winding); e != api.OK || l != x.want {
			t.Error(x, l, e)
		}
	}
}

// P1.1: the errors of windings, of every function of one.
func TestWindingErrors(t *testing.T) {
	for _, b := range badWindings() {
		if e := group.CheckWinding(b.winding); e != b.want {
			t.Error(b, e)
		}
		if l, e := group.LinesOf(b.winding); e != b.want || l != (api.GroupLines{}) {
			t.Error(b, l, e)
		}
		if n, e := group.ZeroOf(b.winding); e != b.want || n != 0 {
			t.Error(b, n, e)
		}
	}
	for _, turns := range []int{1, api.MaxGroupTurns} {
		for _, shift := range []int{0, 2} {
			if e := group.CheckWinding(api.GroupWinding{Kind: api.GroupZigzag, Turns: turns, Shift: shift}); e != api.OK {
				t.Error(turns, shift, e)
			}
		}
	}
}

// P1.1: a star has a zero voltage, a zigzag none to speak of, a delta no common point.
func TestZeroOf(t *testing.T) {
	for _, x := range []struct {
		winding api.GroupWinding
		want    int
		e       api.Errno
	}{
		{star(10), 10, api.OK},
		{api.GroupWinding{Kind: api.GroupStar, Turns: 10, Shift: 2, Reversed: true}, -10, api.OK},
		{zigzag(10), 0, api.OK},
		{api.GroupWinding{Kind: api.GroupZigzag, Turns: 10, Reversed: true}, 0, api.OK},
		{delta(10), 0, api.ErrNone},
		{delta(0), 0, api.ErrRange},
	} {
		if n, e := group.ZeroOf(x.winding); e != x.e || n != x.want {
			t.Error(x, n, e)
		}
	}
}

// P1.2: the phasor of lines.
func TestPhasorOf(t *testing.T) {
	for _, x := range []struct {
		lines api.GroupLines
		want  api.GroupPhasor
	}{
		{api.GroupLines{{10, -10, 0}}, api.GroupPhasor{P: 20, Q: 10}},
		{api.GroupLines{{10, 0, 0}, {1, 2, 3}, {4, 5, 6}}, api.GroupPhasor{P: 10}},
		{api.GroupLines{{10, -20, 10}}, api.GroupPhasor{P: 30, Q: 30}},
		{api.GroupLines{{3, 5, 11}}, api.GroupPhasor{P: -2, Q: 6}},
		{api.GroupLines{{7, 7, 7}}, api.GroupPhasor{}},
		{api.GroupLines{{10000, -10000, 10000}}, api.GroupPhasor{P: 20000, Q: 20000}},
	} {
		if z, e := group.PhasorOf(x.lines); e != api.OK || z != x.want {
			t.Error(x, z, e)
		}
	}
}

// P1.2: every number of lines has its limit.
func TestLineErrors(t *testing.T) {
	for k := range 3 {
		for limb := range 3 {
			for _, n := range []int{api.MaxGroupLine, -api.MaxGroupLine} {
				var l api.GroupLines
				l[k][limb] = n
				if e := group.CheckLines(l); e != api.OK {
					t.Error(l, e)
				}
			}
			for _, n := range []int{api.MaxGroupLine + 1, -api.MaxGroupLine - 1, least, greatest} {
				var l api.GroupLines
				l[k][limb] = n
				checkBadLines(t, l)
			}
		}
	}
}

func checkBadLines(t *testing.T, l api.GroupLines) {
	t.Helper()
	if e := group.CheckLines(l); e != api.ErrRange {
		t.Error(l, e)
	}
	if z, e := group.PhasorOf(l); e != api.ErrRange || z != (api.GroupPhasor{}) {
		t.Error(l, z, e)
	}
	if n, e := group.SequenceOf(l); e != api.ErrRange || n != 0 {
		t.Error(l, n, e)
	}
	if r, e := group.Renamed(l, [3]int{1, 1, 1}); e != api.ErrRange || r != (api.GroupLines{}) {
		t.Error(l, r, e)
	}
}

// P1.2: sequences, of lines that are no winding's, too.
func TestSequenceOf(t *testing.T) {
	for _, x := range []struct {
		lines api.GroupLines
		want  int
		e     api.Errno
	}{
		{api.GroupLines{{1, 0, 0}, {0, 1, 0}, {0, 0, 1}}, 1, api.OK},
		{api.GroupLines{{1, 0, 0}, {0, 0, 1}, {0, 1, 0}}, -1, api.OK},
		{api.GroupLines{{6, 5, 5}, {2, 3, 2}, {-1, -1, 0}}, 1, api.OK},
		{api.GroupLines{{1, 0, 0}, {0, 1, 0}, {0, 1, 0}}, 0, api.ErrNone},
		{api.GroupLines{{1, 0, 0}, {0, 0, 1}, {0, 0, 1}}, 0, api.ErrNone},
		{api.GroupLines{{1, 0, 0}, {1, 0, 0}, {1, 0, 0}}, 0, api.ErrNone},
		{api.GroupLines{{1, 0, 0}, {0, 2, 0}, {0, 0, 4}}, 0, api.ErrNone},
		{api.GroupLines{{1, 0, 0}}, 0, api.ErrNone},
		{api.GroupLines{}, 0, api.ErrZero},
		{api.GroupLines{{5, 5, 5}, {-1, -1, -1}, {2, 2, 2}}, 0, api.ErrZero},
		{api.GroupLines{{5, 5, 5}, {1, 0, 0}, {0, 1, 0}}, 0, api.ErrZero},
	} {
		if n, e := group.SequenceOf(x.lines); e != x.e || n != x.want {
			t.Error(x, n, e)
		}
	}
}

// P1.2: the terminal k of renamed lines is the one that was p[k]; terminals have potentials here, so that any voltage can be told from them.
func TestRenamed(t *testing.T) {
	potentials := [3][3]int{{1, 20, 300}, {-4, 50, 6}, {77, -8, 9}}
	linesBy := func(p [3]int) api.GroupLines {
		var l api.GroupLines
		for k := range 3 {
			for limb := range 3 {
				l[k][limb] = potentials[p[k]][limb] - potentials[p[(k+1)%3]][limb]
			}
		}
		return l
	}
	for _, p := range permutations {
		if r, e := group.Renamed(linesBy([3]int{0, 1, 2}), p); e != api.OK || r != linesBy(p) {
			t.Error(p, r, e)
		}
	}
	unlike := api.GroupLines{{1, 2, 3}, {4, 5, 6}, {7, 8, 9}}
	if r, e := group.Renamed(unlike, [3]int{0, 2, 1}); e != api.OK || r != (api.GroupLines{{-7, -8, -9}, {-4, -5, -6}, {-1, -2, -3}}) {
		t.Error(r, e)
	}
	for _, p := range [][3]int{{1, 1, 2}, {0, 0, 0}, {1, 2, 3}, {-1, 0, 1}, {0, 1, 1}, {least, greatest, 0}} {
		if r, e := group.Renamed(unlike, p); e != api.ErrForm || r != (api.GroupLines{}) {
			t.Error(p, r, e)
		}
	}
}

// P1.9: the lines of each winding are balanced.
func TestBalanced(t *testing.T) {
	factor := [api.GroupKinds]int{api.GroupStar: 3, api.GroupDelta: 1, api.GroupZigzag: 9}
	for _, w := range allWindings() {
		for _, turns := range []int{1, 10, 231, api.MaxGroupTurns} {
			w.Turns = turns
			l, e := group.LinesOf(w)
			if e != api.OK {
				t.Fatal(w, e)
			}
			if n, e := group.SequenceOf(l); e != api.OK || n != 1 {
				t.Error(w, n, e)
			}
			var sum api.GroupPhasor
			for k := range 3 {
				z, _ := group.PhasorOf(api.GroupLines{l[k]})
				sum.P, sum.Q = sum.P+z.P, sum.Q+z.Q
				if _, e := group.HoursOf(z); e != api.OK {
					t.Error(w, z, e)
				}
				if n, e := group.SquareOf(z); e != api.OK || n != factor[w.Kind]*turns*turns {
					t.Error(w, z, n, e)
				}
			}
			if sum != (api.GroupPhasor{}) {
				t.Error(w, sum)
			}
		}
	}
}

// P1.11: the renaming 1, 2, 0 has the hours less 4; two terminals exchanged turn the sequence.
func TestRenamedShifts(t *testing.T) {
	for _, w := range allWindings() {
		l, _ := group.LinesOf(w)
		before := hoursOf(t, l)
		for _, p := range permutations {
			r, e := group.Renamed(l, p)
			if e != api.OK {
				t.Fatal(w, p, e)
			}
			cyclic := p[1] == (p[0]+1)%3
			want := -1
			if cyclic {
				want = 1
			}
			if n, e := group.SequenceOf(r); e != api.OK || n != want {
				t.Error(w, p, n, e)
			}
			if after := hoursOf(t, r); p == [3]int{1, 2, 0} && after != (before+8)%12 {
				t.Error(w, before, after)
			}
		}
	}
}

func hoursOf(t *testing.T, l api.GroupLines) int {
	t.Helper()
	z, e := group.PhasorOf(l)
	if e != api.OK {
		t.Fatal(l, e)
	}
	h, e := group.HoursOf(z)
	if e != api.OK {
		t.Fatal(l, z, e)
	}
	return h
}
