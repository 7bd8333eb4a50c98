package tap_test

import (
	"reflect"
	"slices"
	"strings"
	"testing"

	"buchholz/api"
	"buchholz/tap"
)

// branches returns branches from their taps and resistances.
func branches(parts ...int) []api.TapBranch {
	var l []api.TapBranch
	for i := 0; i < len(parts); i += 2 {
		l = append(l, api.TapBranch{Tap: parts[i], Resistance: parts[i+1]})
	}
	return l
}

// P6.9: the string of a machine, whatever it is.
func TestFormatMachine(t *testing.T) {
	ninth := api.TapMachine{Branches: branches(0, 0, 0, 2, 1, 2, 1, 0), Start: 3, Guards: []api.TapGuard{{Contact: 0, Closed: 2, Open: 12}}}
	for _, x := range []struct {
		m    api.TapMachine
		want string
	}{
		{ninth, "3 t0r0 t0r2 t1r2 t1r0 -0/2/12"},
		{api.TapMachine{}, "0"},
		{api.TapMachine{Start: -7, Branches: []api.TapBranch{}, Guards: []api.TapGuard{}}, "-7"},
		{api.TapMachine{Guards: []api.TapGuard{{}, {Closes: true, Contact: 1, Closed: 2, Open: 3}}}, "0 -0/0/0 +1/2/3"},
		{api.TapMachine{Start: greatest, Branches: branches(least, -1, 12345, greatest)}, "9223372036854775807 t-9223372036854775808r-1 t12345r9223372036854775807"},
		{api.TapMachine{Start: 1, Branches: branches(1, 10), Guards: []api.TapGuard{{Contact: -1, Closes: true, Closed: -2, Open: 64}, {Contact: 10, Closed: 100, Open: least}}}, "1 t1r10 +-1/-2/64 -10/100/-9223372036854775808"},
		{api.TapMachine{Branches: make([]api.TapBranch, 100)}, "0" + strings.Repeat(" t0r0", 100)},
	} {
		if s := tap.FormatMachine(x.m); s != x.want {
			t.Errorf("%v: %q", x, s)
		}
	}
}

// P6.9: strings with a machine.
func TestParseMachine(t *testing.T) {
	for s, want := range map[string]api.TapMachine{
		"3 t0r0 t0r2 t1r2 t1r0 -0/2/12": {Branches: branches(0, 0, 0, 2, 1, 2, 1, 0), Start: 3, Guards: []api.TapGuard{{Contact: 0, Closed: 2, Open: 12}}},
		"0 t0r0":                        {Branches: branches(0, 0)},
		"1 t1r10 +0/1/0 -0/0/1":         {Branches: branches(1, 10), Start: 1, Guards: []api.TapGuard{{Closes: true, Closed: 1}, {Open: 1}}},
		"63" + strings.Repeat(" t1r9", 6) + strings.Repeat(" +5/63/63", 30): {
			Branches: slices.Repeat(branches(1, 9), 6), Start: 63,
			Guards: slices.Repeat([]api.TapGuard{{Contact: 5, Closes: true, Closed: 63, Open: 63}}, 30),
		},
	} {
		if m, e := tap.ParseMachine(s); e != api.OK || !isSame(m, want) {
			t.Errorf("%q: %v %v", s, m, e)
		}
	}
}

// isSame returns whether two machines have the same parts.
func isSame(a, b api.TapMachine) bool {
	return a.Start == b.Start && slices.Equal(a.Branches, b.Branches) && slices.Equal(a.Guards, b.Guards)
}

// P6.9: strings that are not those of a machine.
func TestParseMachineErrors(t *testing.T) {
	wanted := map[string]api.Errno{
		"0":                                      api.ErrShape,
		"9999":                                   api.ErrShape,
		"0 +0/0/0":                               api.ErrShape,
		"0" + strings.Repeat(" t0r0", 7):         api.ErrLarge,
		"0" + strings.Repeat(" t9r9999", 7):      api.ErrLarge,
		"0" + strings.Repeat(" t0r0", 20000):     api.ErrLarge,
		"0 t2r0":                                 api.ErrRange,
		"0 t9999r0":                              api.ErrRange,
		"0 t0r11":                                api.ErrRange,
		"0 t0r9999":                              api.ErrRange,
		"2 t0r0":                                 api.ErrRange,
		"2 t0r0 +1/0/0":                          api.ErrRange,
		"0 t0r0 +1/0/0":                          api.ErrMissing,
		"0 t0r0 -9999/9999/9999":                 api.ErrMissing,
		"0 t0r0 +0/2/0":                          api.ErrRange,
		"0 t0r0 -0/0/2":                          api.ErrRange,
		"0 t0r0" + strings.Repeat(" +0/0/0", 31): api.ErrLarge,
		"0 t0r0" + strings.Repeat(" +1/0/0", 31): api.ErrLarge,
		"0 t0r0" + strings.Repeat(" +0/0/0", 20000):        api.ErrLarge,
		"0" + strings.Repeat(" t0r0", 7) + " t0":           api.ErrSyntax, // before the errors of the machine
		"0" + strings.Repeat(" t0r0", 7) + " +0/0/0 t0r0":  api.ErrSyntax,
		"0 t0r0" + strings.Repeat(" +0/0/0", 31) + " -0/0": api.ErrSyntax,
		strings.Repeat(" ", 100000):                        api.ErrSyntax,
		strings.Repeat("1", 100000):                        api.ErrSyntax,
	}
	for _, s := range []string{
		"", " ", "  ", " 0", "0 ", "0  t0r0", "0 t0r0 ", " 0 t0r0", "0 t0r0  +0/0/0", "0 t0r0 +0/0/0 ",
		"t0r0", "+0/0/0", "t0r0 0", "t0r0 t0r0", "0 0", "0 0 t0r0", "0 t0r0 0", "x", "x t0r0", "0 x", "0 t0r0 x",
		"0\tt0r0", "0\nt0r0", "0 t0r0\n", "0 t0r0\x00", "0,t0r0", "0 t0r0, t0r0",
		"00 t0r0", "01 t0r0", "-0 t0r0", "-1 t0r0", "+0 t0r0", "+1 t0r0", "00000 t0r0", "10000 t0r0", "99999999999999999999 t0r0", "0x0 t0r0", "1e0 t0r0", "0.0 t0r0", "1_0 t0r0", "١ t0r0",
		"0 t", "0 r", "0 tr", "0 t0", "0 t0r", "0 tr0", "0 r0", "0 r0t0", "0 0r0", "0 t0 r0", "0 t0r0r0", "0 t0r0t0r0", "0 tt0r0", "0 t0rr0", "0 t0r0x", "0 xt0r0", "0 T0r0", "0 t0R0", "0 t0r0/", "0 t0/0",
		"0 t00r0", "0 t01r0", "0 t0r00", "0 t0r02", "0 t-0r0", "0 t-1r0", "0 t+0r0", "0 t0r-0", "0 t0r-1", "0 t0r+1", "0 t10000r0", "0 t0r10000", "0 t0r00000", "0 t0r0.5", "0 t0r1e0",
		"0 t0r0 +", "0 t0r0 -", "0 t0r0 +0", "0 t0r0 +0/", "0 t0r0 +0/0", "0 t0r0 +0/0/", "0 t0r0 +0//0", "0 t0r0 +//", "0 t0r0 +/0/0", "0 t0r0 +0/0/0/", "0 t0r0 +0/0/0/0", "0 t0r0 0/0/0", "0 t0r0 /0/0/0", "0 t0r0 +0 /0/0", "0 t0r0 + 0/0/0",
		"0 t0r0 ++0/0/0", "0 t0r0 --0/0/0", "0 t0r0 +-0/0/0", "0 t0r0 -+0/0/0", "0 t0r0 *0/0/0", "0 t0r0 +0/-0/0", "0 t0r0 +0/+0/0", "0 t0r0 +0/-1/0", "0 t0r0 +0/0/-1", "0 t0r0 +0-0-0", "0 t0r0 +0|0|0", "0 t0r0 -0\\0\\0",
		"0 t0r0 +00/0/0", "0 t0r0 +0/00/0", "0 t0r0 +0/0/00", "0 t0r0 +0/01/0", "0 t0r0 -0/0/01", "0 t0r0 +10000/0/0", "0 t0r0 +0/10000/0", "0 t0r0 +0/0/10000", "0 t0r0 +x/0/0", "0 t0r0 +0/x/0", "0 t0r0 +0/0/x", "0 t0r0 +0/0/0x", "0 t0r0 x+0/0/0",
		"0 t0r0 +0/0/0 t0r0", "0 +0/0/0 t0r0", "0 t0r0 -0/0/0 t0r0 -0/0/0", "0 t9r0 +9/0/0 t0", "9 t0r0 x", "0 t0r0 −0/0/0",
	} {
		wanted[s] = api.ErrSyntax
	}
	for s, want := range wanted {
		if m, e := tap.ParseMachine(s); e != want || !reflect.ValueOf(m).IsZero() {
			t.Errorf("%.60q: %v %v, not %v", s, m, e, want)
		}
	}
}

// P6.16: ParseMachine reverses FormatMachine.
func TestStringsAreReversed(t *testing.T) {
	r := numbers(30)
	for range 2000 {
		m := randomMachine(&r, 10)
		if got, e := tap.ParseMachine(tap.FormatMachine(m)); e != api.OK || !isSame(got, m) {
			t.Fatal(m, got, e)
		}
	}
}
