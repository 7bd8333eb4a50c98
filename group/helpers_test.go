package group_test

import (
	"math"
	"testing"

	"buchholz/api"
	"buchholz/group"
)

const (
	least    = math.MinInt
	greatest = math.MaxInt
)

// permutations is written out again: the tests do not rely on the table of the package.
var permutations = [][3]int{{0, 1, 2}, {0, 2, 1}, {1, 0, 2}, {1, 2, 0}, {2, 0, 1}, {2, 1, 0}}

// turnsOf is turns of each kind by which all kinds have nearly the same voltage.
var turnsOf = [api.GroupKinds]int{api.GroupStar: 100, api.GroupDelta: 173, api.GroupZigzag: 58}

func star(turns int) api.GroupWinding {
	return api.GroupWinding{Kind: api.GroupStar, Turns: turns}
}

func delta(turns int) api.GroupWinding {
	return api.GroupWinding{Kind: api.GroupDelta, Turns: turns}
}

func zigzag(turns int) api.GroupWinding {
	return api.GroupWinding{Kind: api.GroupZigzag, Turns: turns}
}

// unit returns the unit with a string.
func unit(t *testing.T, s string) api.GroupUnit {
	t.Helper()
	u, e := group.ParseUnit(s)
	if e != api.OK {
		t.Fatal(s, e)
	}
	return u
}

// allWindings returns a winding of each kind, shift and sign.
func allWindings() []api.GroupWinding {
	var l []api.GroupWinding
	for kind := range api.GroupKinds {
		for shift := range 3 {
			for _, reversed := range []bool{false, true} {
				l = append(l, api.GroupWinding{Kind: kind, Turns: turnsOf[kind], Shift: shift, Reversed: reversed})
			}
		}
	}
	return l
}

// allUnits returns a unit of each two windings.
func allUnits() []api.GroupUnit {
	var l []api.GroupUnit
	for _, high := range allWindings() {
		for _, low := range allWindings() {
			l = append(l, api.GroupUnit{High: high, Low: low})
		}
	}
	return l
}

// allTurns returns the 24 turns.
func allTurns() []api.GroupTurn {
	var l []api.GroupTurn
	for h := range 12 {
		l = append(l, api.GroupTurn{Hours: h}, api.GroupTurn{Hours: h, Mirrored: true})
	}
	return l
}

type badWinding struct {
	winding api.GroupWinding
	want    api.Errno
}

func badWindings() []badWinding {
	return []badWinding{
		{api.GroupWinding{Kind: -1, Turns: 1}, api.ErrKind},
		{api.GroupWinding{Kind: api.GroupKinds, Turns: 1}, api.ErrKind},
		{api.GroupWinding{Kind: least, Turns: 0, Shift: 3}, api.ErrKind},
		{api.GroupWinding{Kind: api.GroupStar, Turns: 0}, api.ErrRange},
		{api.GroupWinding{Kind: api.GroupStar, Turns: -1}, api.ErrRange},
		{api.GroupWinding{Kind: api.GroupStar, Turns: api.MaxGroupTurns + 1}, api.ErrRange},
		{api.GroupWinding{Kind: api.GroupDelta, Turns: 1, Shift: -1}, api.ErrRange},
		{api.GroupWinding{Kind: api.GroupDelta, Turns: 1, Shift: 3}, api.ErrRange},
		{api.GroupWinding{Kind: api.GroupZigzag, Turns: least, Shift: greatest}, api.ErrRange},
	}
}

type badUnit struct {
	unit api.GroupUnit
	want api.Errno
}

func badUnits() []badUnit {
	l := []badUnit{
		{api.GroupUnit{High: star(1), Low: star(1), Step: -1}, api.ErrRange},
		{api.GroupUnit{High: star(1), Low: star(1), Step: api.MaxGroupStep + 1}, api.ErrRange},
		{api.GroupUnit{High: star(0), Low: api.GroupWinding{Kind: 9}}, api.ErrRange},
		{api.GroupUnit{High: star(1), Low: api.GroupWinding{Kind: 9}, Step: -1}, api.ErrKind},
	}
	for _, b := range badWindings() {
		l = append(l, badUnit{api.GroupUnit{High: b.winding, Low: star(1)}, b.want}, badUnit{api.GroupUnit{High: star(1), Low: b.winding}, b.want})
	}
	return l
}

// badPhasors returns phasors with a part just beyond its limit, and with extreme ones.
func badPhasors() []api.GroupPhasor {
	const over = api.MaxGroupPart + 1
	return []api.GroupPhasor{{P: over}, {Q: over}, {P: -over}, {Q: -over}, {P: least}, {Q: greatest}}
}
