package surge_test

import (
	"reflect"
	"strings"
	"testing"

	"buchholz/api"
	"buchholz/surge"
)

// P4.7: the string of a ladder, whatever it is.
func TestFormatLadder(t *testing.T) {
	for _, x := range []struct {
		l    api.SurgeLadder
		want string
	}{
		{api.SurgeLadder{Series: []int{2, 2}, Earth: []int{1, 0}, Turns: []int{1, 3}, Earthed: true}, "2,2;1,0;1,3;earthed"},
		{api.SurgeLadder{Series: []int{2, 2}, Earth: []int{1, 0}, Turns: []int{1, 3}}, "2,2;1,0;1,3;open"},
		{api.SurgeLadder{}, ";;;open"},
		{api.SurgeLadder{Series: []int{}, Earth: []int{}, Turns: []int{}, Earthed: true}, ";;;earthed"},
		{api.SurgeLadder{Series: []int{1}}, "1;;;open"},
		{api.SurgeLadder{Earth: []int{1, 2}}, ";1,2;;open"},
		{api.SurgeLadder{Turns: []int{3, 2, 1}, Earthed: true}, ";;3,2,1;earthed"},
		{api.SurgeLadder{Series: []int{least, greatest}, Earth: []int{-1}, Turns: make([]int, 8)}, "-9223372036854775808,9223372036854775807;-1;0,0,0,0,0,0,0,0;open"},
	} {
		if s := surge.FormatLadder(x.l); s != x.want {
			t.Error(x, s)
		}
	}
}

// P4.7: strings with a ladder.
func TestParseLadder(t *testing.T) {
	for s, want := range map[string]api.SurgeLadder{
		earthed:                     {Series: []int{2, 2}, Earth: []int{1, 0}, Turns: []int{1, 3}, Earthed: true},
		open:                        {Series: []int{2, 2}, Earth: []int{1, 0}, Turns: []int{1, 3}},
		"1;0;1;open":                {Series: []int{1}, Earth: []int{0}, Turns: []int{1}},
		"100;100;1000;earthed":      {Series: []int{100}, Earth: []int{100}, Turns: []int{1000}, Earthed: true},
		"90,9;0,10;11,12;open":      {Series: []int{90, 9}, Earth: []int{0, 10}, Turns: []int{11, 12}},
		"1,2,3;4,5,6;7,8,9;open":    {Series: []int{1, 2, 3}, Earth: []int{4, 5, 6}, Turns: []int{7, 8, 9}},
		"1,1,1;0,0,0;1,1,1;earthed": {Series: []int{1, 1, 1}, Earth: []int{0, 0, 0}, Turns: []int{1, 1, 1}, Earthed: true},
	} {
		if l, e := surge.ParseLadder(s); e != api.OK || !reflect.DeepEqual(l, want) {
			t.Errorf("%q: %v %v", s, l, e)
		}
	}
}

// P4.7: strings that are not those of a ladder.
func TestParseLadderErrors(t *testing.T) {
	wanted := map[string]api.Errno{
		"1;0;0;open":             api.ErrRange,
		"0;0;1;open":             api.ErrRange,
		"101;0;1;open":           api.ErrRange,
		"1;101;1;open":           api.ErrRange,
		"1;0;1001;open":          api.ErrRange,
		"9999;9999;9999;earthed": api.ErrRange,
		"1,1;0;1,1;open":         api.ErrShape,
		"1,1;0,0;1;open":         api.ErrShape,
		"1;0,0;1,1;open":         api.ErrShape,
		";;;open":                api.ErrShape, // the string of a ladder without sections
		";;;earthed":             api.ErrShape,
		"1;;1;open":              api.ErrShape,
		"1;0;;open":              api.ErrShape,
		";0;1;open":              api.ErrShape,
		"1,1,1,1,1,1,1;0,0,0,0,0,0,0;1,1,1,1,1,1,1;open": api.ErrLarge,
		"0,0,0,0,0,0,0;0,0,0,0,0,0,0;0,0,0,0,0,0;open":   api.ErrShape,
		strings.Repeat(" ", api.MaxString):               api.ErrSyntax,
		strings.Repeat(" ", api.MaxString+1):             api.ErrLarge,
		"1;0;1" + strings.Repeat(",1", 29995) + ";open":  api.ErrShape, // 60000 bytes
		"1;0;1" + strings.Repeat(",1", 29996) + ";open":  api.ErrLarge,
	}
	for _, s := range []string{
		"", ";", ";;", ";;;", ";;;;", "open", "earthed", "1;0;1", "1;0;1;", "1;0;open", ";1;0;1;open", "1;0;1;open;", "1;0;1;;open",
		"1;0;1;Open", "1;0;1;OPEN", "1;0;1; open", "1;0;1;open ", "1;0;1;openx", "1;0;1;opened", "1;0;1;earth", "1;0;1;earthed,", "1;0;1;0",
		" 1;0;1;open", "1 ;0;1;open", "1; 0;1;open", "1;0;1 ;open", "1;0;1;open\n", "\t1;0;1;open", " ;;;open",
		",;0;1;open", "1,;0;1;open", ",1;0;1;open", "1,,1;0,0;1,1;open", "1;0,;1;open", "1;,0;1;open", "1;,;1;open", "1;0;1,;open", "1;0;,1;open",
		"1, 1;0,0;1,1;open", "1 1;0,0;1,1;open", "1.5;0;1;open",
		"01;0;1;open", "1;00;1;open", "1;0;01;open", "0001;0;1;open", "1;-0;1;open", "-1;0;1;open", "+1;0;1;open", "1;+0;1;open", "1;0;-1;open", "1;-;1;open",
		"10000;0;1;open", "1;10000;1;open", "1;0;10000;open", "1;0;99999999999999999999;open", "1;0;00000;open",
		"a;0;1;open", "1;b;1;open", "1;0;c;open", "1a;0;1;open", "/;0;1;open", ":;0;1;open", "1;0;1\x00;open", "١;0;1;open", "0x1;0;1;open", "1e2;0;1;open", "1_0;0;1;open",
		"0,0,0,0,0,0,0;0;x;open", "101;0;01;open", // before the errors of the ladder
	} {
		wanted[s] = api.ErrSyntax
	}
	for s, want := range wanted {
		if l, e := surge.ParseLadder(s); e != want || !reflect.DeepEqual(l, api.SurgeLadder{}) {
			t.Errorf("%.60q: %v %v, not %v", s, l, e, want)
		}
	}
}

// P4.14: ParseLadder reverses FormatLadder.
func TestStringsAreReversed(t *testing.T) {
	r := numbers(17)
	for i := range 1000 {
		l := randomLadder(&r, []int{1, 10, 100}[i%3])
		if got, e := surge.ParseLadder(surge.FormatLadder(l)); e != api.OK || !reflect.DeepEqual(got, l) {
			t.Fatal(l, got, e)
		}
	}
}
