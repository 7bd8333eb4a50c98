package group_test

import (
	"strings"
	"testing"

	"buchholz/api"
	"buchholz/group"
)

// P1.8: the string of a unit, whatever it is.
func TestFormatUnit(t *testing.T) {
	for _, x := range []struct {
		u    api.GroupUnit
		want string
	}{
		{api.GroupUnit{High: delta(400), Low: star(231), Step: 5}, "d+0/400 y+0/231 5"},
		{api.GroupUnit{High: api.GroupWinding{Kind: api.GroupZigzag, Turns: 2000, Shift: 2, Reversed: true}, Low: delta(1)}, "z-2/2000 d+0/1 0"},
		{api.GroupUnit{}, "y+0/0 y+0/0 0"},
		{api.GroupUnit{High: api.GroupWinding{Kind: 3, Turns: -7, Shift: -1}, Low: api.GroupWinding{Kind: -1, Turns: 123456, Shift: 9, Reversed: true}, Step: -4}, "?+-1/-7 ?-9/123456 -4"},
		{api.GroupUnit{High: api.GroupWinding{Kind: least, Turns: least}, Low: api.GroupWinding{Kind: greatest}}, "?+0/-9223372036854775808 ?+0/0 0"},
	} {
		if s := group.FormatUnit(x.u); s != x.want {
			t.Error(x, s)
		}
	}
}

// P1.8: strings that are of no unit's form, and units that are not valid.
func TestParseUnitErrors(t *testing.T) {
	for s, want := range map[string]api.Errno{
		"":                       api.ErrSyntax,
		" ":                      api.ErrSyntax,
		"  ":                     api.ErrSyntax,
		"d+0/10 y+0/10":          api.ErrSyntax,
		"d+0/10 y+0/10 ":         api.ErrSyntax,
		"d+0/10 y+0/10 0 ":       api.ErrSyntax,
		" d+0/10 y+0/10 0":       api.ErrSyntax,
		"d+0/10  y+0/10 0":       api.ErrSyntax,
		"d+0/10 y+0/10  0":       api.ErrSyntax,
		"d+0/10\ty+0/10 0":       api.ErrSyntax,
		"d+0/10 y+0/10 0\n":      api.ErrSyntax,
		"d+0/10 y+0/10 0 0":      api.ErrSyntax,
		"x+0/10 y+0/10 0":        api.ErrSyntax,
		"?+0/10 y+0/10 0":        api.ErrSyntax,
		"D+0/10 y+0/10 0":        api.ErrSyntax,
		"d0/10 y+0/10 0":         api.ErrSyntax,
		"d*0/10 y+0/10 0":        api.ErrSyntax,
		"d/10 y+0/10 0":          api.ErrSyntax,
		"d+/10 y+0/10 0":         api.ErrSyntax,
		"d+0/ y+0/10 0":          api.ErrSyntax,
		"d+0 y+0/10 0":           api.ErrSyntax,
		"d+0/10/ y+0/10 0":       api.ErrSyntax,
		"d+0/10 y+0/1x 0":        api.ErrSyntax,
		"d+0/010 y+0/10 0":       api.ErrSyntax,
		"d+00/10 y+0/10 0":       api.ErrSyntax,
		"d+0/10 y+0/10 00":       api.ErrSyntax,
		"d+0/10 y+0/10 -1":       api.ErrSyntax,
		"d+0/10 y+0/10 +1":       api.ErrSyntax,
		"d+0/10 y+0/10 -0":       api.ErrSyntax,
		"d+-1/10 y+0/10 0":       api.ErrSyntax,
		"d+0/-10 y+0/10 0":       api.ErrSyntax,
		"d+0/10000 y+0/10 0":     api.ErrSyntax,
		"d+0/10 y+10000/10 0":    api.ErrSyntax,
		"d+0/10 y+0/10 10000":    api.ErrSyntax,
		"d+0/10 y+0/10 \xc2\xb2": api.ErrSyntax,
		"d+3/0 y+0/10 10000":     api.ErrSyntax,
		"d+3/10 y+0/10 0":        api.ErrRange,
		"d+0/0 y+0/10 0":         api.ErrRange,
		"d+0/2001 y+0/10 0":      api.ErrRange,
		"d+0/9999 y+0/10 0":      api.ErrRange,
		"d+0/10 y+9999/10 0":     api.ErrRange,
		"d+0/10 y+0/10 101":      api.ErrRange,
		"d+0/10 y+0/10 9999":     api.ErrRange,
	} {
		if u, e := group.ParseUnit(s); e != want || u != (api.GroupUnit{}) {
			t.Errorf("%q: %v %v", s, u, e)
		}
	}
	for _, s := range []string{strings.Repeat("9", 100000), strings.Repeat(" ", 100000), "d+0/10 y+0/10 " + strings.Repeat("1", 100000)} {
		if u, e := group.ParseUnit(s); e != api.ErrSyntax || u != (api.GroupUnit{}) {
			t.Error(len(s), u, e)
		}
	}
}

// P1.15: ParseUnit is the inverse of FormatUnit.
func TestParseUnit(t *testing.T) {
	for _, u := range allUnits() {
		for _, turns := range []int{1, 9, 10, 1999, api.MaxGroupTurns} {
			for _, step := range []int{0, 1, api.MaxGroupStep} {
				u.High.Turns, u.Step = turns, step
				s := group.FormatUnit(u)
				if v, e := group.ParseUnit(s); e != api.OK || v != u {
					t.Error(s, v, e)
				}
			}
		}
	}
}
