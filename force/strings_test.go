package force_test

import (
	"reflect"
	"strings"
	"testing"

	"buchholz/api"
	"buchholz/force"
)

// P5.7: the string of a window, whatever it is.
func TestFormatWindow(t *testing.T) {
	for _, x := range []struct {
		w    api.ForceWindow
		want string
	}{
		{windowOf([]int{4, 4}, []int{-2, -6}), first},
		{windowOf([]int{0}, []int{0}), "0 ; 0"},
		{windowOf([]int{1}, []int{2, 3, -400}), "1 ; 2 3 -400"},
		{windowOf([]int{least, 1000}, []int{greatest}), "-9223372036854775808 1000 ; 9223372036854775807"},
		{windowOf(make([]int, 17), []int{1}), strings.Repeat("0 ", 17) + "; 1"},
		{windowOf(nil, []int{1, 2}), " ; 1 2"},
		{windowOf([]int{1, 2}, []int{}), "1 2 ; "},
		{api.ForceWindow{}, " ; "},
	} {
		if s := force.FormatWindow(x.w); s != x.want {
			t.Errorf("%v: %q", x, s)
		}
	}
}

// P5.7: strings with a window.
func TestParseWindow(t *testing.T) {
	for s, want := range map[string]api.ForceWindow{
		first:                     windowOf([]int{4, 4}, []int{-2, -6}),
		"0 ; 0":                   windowOf([]int{0}, []int{0}),
		"100 ; -100":              windowOf([]int{100}, []int{-100}),
		"-7 0 10 ; -9 -99 105":    {}, // beyond the range
		"-7 0 10 ; -9 -93 99":     windowOf([]int{-7, 0, 10}, []int{-9, -93, 99}),
		"1 2 3 4 ; -5 -60 70 -15": windowOf([]int{1, 2, 3, 4}, []int{-5, -60, 70, -15}),
		"0 0 0 0 ; 0 0 0 0":       windowOf(make([]int, 4), make([]int, 4)),
		strings.Repeat("0 ", 15) + ";" + strings.Repeat(" 0", 15): windowOf(make([]int, 15), make([]int, 15)),
	} {
		f := api.OK
		if want.Inner == nil {
			f = api.ErrRange
		}
		if w, e := force.ParseWindow(s); e != f || !reflect.DeepEqual(w, want) {
			t.Errorf("%q: %v %v", s, w, e)
		}
	}
}

// P5.7: strings that are not those of a window.
func TestParseWindowErrors(t *testing.T) {
	wanted := map[string]api.Errno{
		"101 ; -101":  api.ErrRange,
		"999 ; 0":     api.ErrRange,
		"0 ; -999":    api.ErrRange,
		"1 ; 0":       api.ErrClash,
		"4 4 ; -2 -7": api.ErrClash,
		"4 4 ; -8":    api.ErrShape,
		"999 ; 0 0":   api.ErrShape,
		"0 ; 0 0":     api.ErrShape,
		strings.Repeat("0 ", 16) + ";" + strings.Repeat(" 0", 16):       api.ErrLarge,
		strings.Repeat("0 ", 16) + ";" + strings.Repeat(" 0", 15):       api.ErrShape,
		strings.Repeat("0 ", 40000) + ";" + strings.Repeat(" 0", 40000): api.ErrLarge,
		strings.Repeat("0 ", 40000) + "; 0":                             api.ErrShape,
		strings.Repeat("0 ", 16) + "; 00":                               api.ErrSyntax,
		strings.Repeat(" ", 100000):                                     api.ErrSyntax,
	}
	for _, s := range []string{
		"", " ", ";", " ;", "; ", " ; ", "  ;  ", "0", "0 0", "0 ; ", " ; 0", "0 ;", "; 0", "0;0", "0; 0", "0 ;0", "0  ; 0", "0 ;  0",
		" 0 ; 0", "0 ; 0 ", "0 0  0 ; 0 0 0", "0 ; 0 ; 0", "0 ; ; 0", "0 ;; 0", "; 0 ; 0", "0 ; 0 ;", "0 ; 0;", "0 ; 0 ; ", ";0 ; 0",
		"0\t; 0", "0 ; 0\n", "0 ; 0\x00", "0, 0", "0 : 0", "0,0 ; 0,0",
		"00 ; 0", "0 ; 00", "01 ; -1", "1 ; -01", "001 ; -1", "-0 ; 0", "0 ; -0", "-00 ; 0", "+0 ; 0", "+1 ; -1", "--1 ; 1", "1 ; --1", "- ; 0", "0 ; -", "1- ; 1", "- 1 ; 1",
		"1000 ; 0", "0 ; 1000", "-1000 ; 0", "0 ; -1000", "0000 ; 0", "0001 ; -1", "99999999999999999999 ; 0",
		"a ; 0", "0 ; a", "1a ; 0", "0 ; 1a", "/ ; 0", ": ; 0", "-a ; 0", "0.0 ; 0", "0x1 ; -1", "1e1 ; 0", "1_0 ; -10", "١ ; 0",
		"101 ; 01", "0 0 ; 0 x", // before the errors of the window
	} {
		wanted[s] = api.ErrSyntax
	}
	for s, want := range wanted {
		if w, e := force.ParseWindow(s); e != want || !reflect.ValueOf(w).IsZero() {
			t.Errorf("%.60q: %v %v, not %v", s, w, e, want)
		}
	}
}

// P5.14: ParseWindow reverses FormatWindow.
func TestStringsAreReversed(t *testing.T) {
	r := numbers(30)
	for range 1000 {
		w := anyWindow(&r)
		if got, e := force.ParseWindow(force.FormatWindow(w)); e != api.OK || !isSame(got, w) {
			t.Fatal(w, got, e)
		}
	}
}
