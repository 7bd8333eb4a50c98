package works_test

import (
	"reflect"
	"slices"
	"strings"
	"testing"

	"buchholz/api"
	"buchholz/works"
)

// P7.7: the string of a lot, whatever it is.
func TestFormatLot(t *testing.T) {
	for want, x := range map[string]api.WorksLot{
		"coil wire 20 22 21 30":     fifth()[1],
		"wire - 5 6 0 10":           fifth()[0],
		"unit coil,wire 1 1 0 2":    fifth()[2],
		" - 0 0 0 0":                {},
		" - 1 2 3 4":                {Made: []string{}, Measured: span(1, 2), Limits: span(3, 4)},
		"a b ,, -1 -2 -3 -4":        lot("a b", span(-1, -2), span(-3, -4), "", "", ""),
		"-  0 0 0 0":                lot("-", span(0, 0), span(0, 0), ""),
		"x - -1000001 10000000 0 0": lot("x", span(-1000001, 10000000), span(0, 0)),
		"long a,b,c,d,e,f,g,h,i,a 9223372036854775807 -9223372036854775808 0 12345678": lot("long", span(greatest, least), span(0, 12345678), "a", "b", "c", "d", "e", "f", "g", "h", "i", "a"),
	} {
		if s := works.FormatLot(x); s != want {
			t.Errorf("%v: %q, not %q", x, s, want)
		}
	}
}

// P7.7: the string of a task, whatever it is.
func TestFormatTask(t *testing.T) {
	for want, x := range map[string]api.WorksTask{
		"1 4 0 0":     second().Tasks[2],
		"0 3 0 -":     second().Tasks[0],
		"0 0 0 -":     {},
		"1 2 3 -":     {Machine: 1, Length: 2, Release: 3, After: []int{}},
		"3 9 8 0,5,6": task(3, 9, 8, 0, 5, 6),
		"-1 -2 -3 -4": task(-1, -2, -3, -4),
		"9223372036854775807 -9223372036854775808 0 9,9,-9223372036854775808,9223372036854775807": task(greatest, least, 0, 9, 9, least, greatest),
	} {
		if s := works.FormatTask(x); s != want {
			t.Errorf("%v: %q, not %q", x, s, want)
		}
	}
	if s := works.FormatTask(task(0, 0, 0, make([]int, 1000)...)); s != "0 0 0 0"+strings.Repeat(",0", 999) {
		t.Error(s)
	}
}

// isSameLot returns whether two lots have the same parts.
func isSameLot(a, b api.WorksLot) bool {
	return a.Name == b.Name && slices.Equal(a.Made, b.Made) && a.Measured == b.Measured && a.Limits == b.Limits
}

// isSameTask returns whether two tasks have the same parts.
func isSameTask(a, b api.WorksTask) bool {
	return a.Machine == b.Machine && a.Length == b.Length && a.Release == b.Release && slices.Equal(a.After, b.After)
}

// P7.7: strings with a lot.
func TestParseLot(t *testing.T) {
	for s, want := range map[string]api.WorksLot{
		"coil wire 20 22 21 30":                     fifth()[1],
		"wire - 5 6 0 10":                           fifth()[0],
		"unit coil,wire 1 1 0 2":                    fifth()[2],
		"a - 0 0 0 0":                               lot("a", span(0, 0), span(0, 0)),
		"a a -1 0 -1000000 1000000":                 lot("a", span(-1, 0), span(-1000000, 1000000), "a"), // alone it may be made from itself
		"abcdefghijkl b-,C -1000000 -999999 -12 -1": lot("abcdefghijkl", span(-1000000, -999999), span(-12, -1), "b-", "C"),
		"a f,e,d,c,b,a 1 2 3 4":                     lot("a", span(1, 2), span(3, 4), "f", "e", "d", "c", "b", "a"),
	} {
		if x, e := works.ParseLot(s); e != api.OK || !isSameLot(x, want) {
			t.Errorf("%q: %v %v", s, x, e)
		}
	}
}

// P7.7: strings that are not those of a lot.
func TestParseLotErrors(t *testing.T) {
	wanted := map[string]api.Errno{
		"1 - 0 0 0 0":                   api.ErrName,
		"- - 0 0 0 0":                   api.ErrName,
		"a, - 0 0 0 0":                  api.ErrName, // the name is a word, not a list
		"a,b - 0 0 0 0":                 api.ErrName,
		"abcdefghijklm - 0 0 0 0":       api.ErrName,
		"a\t - 0 0 0 0":                 api.ErrName,
		"ä - 0 0 0 0":                   api.ErrName,
		"a 1 0 0 0 0":                   api.ErrName,
		"a b,- 0 0 0 0":                 api.ErrName, // "-" is no name beside others
		"a -,b 0 0 0 0":                 api.ErrName,
		"a -,- 0 0 0 0":                 api.ErrName,
		"a -- 0 0 0 0":                  api.ErrName,
		"a b;c 0 0 0 0":                 api.ErrName,
		"a b,abcdefghijklm 0 0 0 0":     api.ErrName,
		"a b\n 0 0 0 0":                 api.ErrName,
		"a b,b 0 0 0 0":                 api.ErrDouble,
		"a b,c,b 1 0 0 0":               api.ErrDouble,
		"a b,c,d,e,f,g,h 0 0 0 0":       api.ErrLarge,
		"a 1,1,1,1,1,1,1 0 0 0 0":       api.ErrLarge,
		"1 b,c,d,e,f,g,h 0 0 0 0":       api.ErrName,
		"a - 1000001 0 0 0":             api.ErrRange,
		"a - 0 9999999 0 0":             api.ErrRange,
		"a - -1000001 0 1 0":            api.ErrRange,
		"a - 0 0 -9999999 0":            api.ErrRange,
		"a - 0 0 0 1000001":             api.ErrRange,
		"a - 1 0 0 9999999":             api.ErrOrder,
		"a - 0 -1 0 0":                  api.ErrOrder,
		"a - 0 0 1 0":                   api.ErrOrder,
		"1 b,c,d,e,f,g,h 0 0 0 0 ":      api.ErrSyntax, // before the errors of the lot
		"1 1,,1 0 0 0 0":                api.ErrSyntax,
		"1 - 9 0 0 x":                   api.ErrSyntax,
		"1 " + "- 0 0 0":                api.ErrSyntax,
		strings.Repeat(" ", 100000):     api.ErrSyntax,
		strings.Repeat("a", 100000):     api.ErrSyntax,
		strings.Repeat("a ", 100000):    api.ErrSyntax,
		strings.Repeat("a - 0 0 ", 100): api.ErrSyntax,
		"a b" + strings.Repeat(",b", 100000) + " 0 0 0 0":  api.ErrLarge,
		"a b" + strings.Repeat(",b", 100000) + ", 0 0 0 0": api.ErrSyntax,
		strings.Repeat("a", 100000) + " - 0 0 0 0":         api.ErrName,
		"a - 0 0 0 " + strings.Repeat("1", 100000):         api.ErrSyntax,
	}
	for _, s := range []string{
		"", " ", "     ", "a", "a -", "a - 0", "a - 0 0 0", "a - 0 0 0 0 0", "a 0 0 0 0", "- 0 0 0 0", "0 0 0 0",
		" a - 0 0 0 0", "a - 0 0 0 0 ", "a  - 0 0 0 0", "a -  0 0 0 0", "a - 0 0  0 0", " - 0 0 0 0", "a  0 0 0 0", "a - 0 0 0 ",
		"a\t- 0 0 0 0", "a - 0\t0 0 0", "a - 0 0 0 0\n", "a - 0 0 0 0\x00", "a - 0,0 0 0", "a b c 0 0 0 0",
		"a , 0 0 0 0", "a b, 0 0 0 0", "a ,b 0 0 0 0", "a b,,c 0 0 0 0", "a -, 0 0 0 0", "a ,- 0 0 0 0", "a b, c 0 0 0 0",
		"a - x 0 0 0", "a - 0 x 0 0", "a - 0 0 x 0", "a - 0 0 0 x", "a - - 0 0 0", "a - 0 - 0 0", "a - 0 0 - 0", "a - 0 0 0 -",
		"a - -0 0 0 0", "a - 0 -0 0 0", "a - 0 0 -0 0", "a - 0 0 0 -0", "a - +0 0 0 0", "a - +1 1 0 0", "a - 0 0 0 +1",
		"a - 00 0 0 0", "a - 0 01 0 0", "a - 0 0 -01 0", "a - 0 0 0 00", "a - --1 0 0 0", "a - -1- 0 0 0", "a - 1- 1 0 0", "a - - 1 0 0 0",
		"a - 10000000 0 0 0", "a - 0 10000000 0 0", "a - -10000000 0 0 0", "a - 0 0 0 10000000", "a - 00000001 1 0 0", "a - 0000001 1 0 0", "a - 99999999999999999999 0 0 0",
		"a - 0x1 1 0 0", "a - 1e1 1 0 0", "a - 0.5 1 0 0", "a - 1_0 1 0 0", "a - ١ 1 0 0", "a - −1 1 0 0", "a - 1, 1 0 0",
	} {
		wanted[s] = api.ErrSyntax
	}
	for s, want := range wanted {
		if x, e := works.ParseLot(s); e != want || !reflect.ValueOf(x).IsZero() {
			t.Errorf("%.60q: %v %v, not %v", s, x, e, want)
		}
	}
}

// P7.7: strings with a task.
func TestParseTask(t *testing.T) {
	for s, want := range map[string]api.WorksTask{
		"1 4 0 0":                     second().Tasks[2],
		"0 3 0 -":                     second().Tasks[0],
		"3 10000 10000 0,1,2,3,4,5,6": task(3, 10000, 10000, 0, 1, 2, 3, 4, 5, 6),
		"0 1 0 6":                     task(0, 1, 0, 6),
		"2 9999 9 1,6":                task(2, 9999, 9, 1, 6),
	} {
		if x, e := works.ParseTask(s); e != api.OK || !isSameTask(x, want) {
			t.Errorf("%q: %v %v", s, x, e)
		}
	}
}

// P7.7: strings that are not those of a task.
func TestParseTaskErrors(t *testing.T) {
	wanted := map[string]api.Errno{
		"4 1 0 -":                                api.ErrRange,
		"9999999 1 0 -":                          api.ErrRange,
		"0 0 0 -":                                api.ErrRange,
		"0 10001 0 -":                            api.ErrRange,
		"0 9999999 0 -":                          api.ErrRange,
		"0 1 10001 -":                            api.ErrRange,
		"0 1 9999999 0,0":                        api.ErrRange,
		"0 1 0 7":                                api.ErrRange,
		"0 1 0 0,9999999":                        api.ErrRange,
		"0 1 0 1,7,0":                            api.ErrRange,
		"0 1 0 1,0,7":                            api.ErrOrder,
		"0 1 0 0,0":                              api.ErrOrder,
		"0 1 0 6,5":                              api.ErrOrder,
		"0 1 0 0,1,2,3,4,5,6,7":                  api.ErrLarge,
		"0 1 0 9,9,9,9,9,9,9,9":                  api.ErrLarge,
		"4 1 0 9,9,9,9,9,9,9,9":                  api.ErrRange,
		"4 0 99999 9,,9":                         api.ErrSyntax, // before the errors of the task
		"4 1 0":                                  api.ErrSyntax,
		"4 1 0 - ":                               api.ErrSyntax,
		"9 x 0 -":                                api.ErrSyntax,
		strings.Repeat(" ", 100000):              api.ErrSyntax,
		strings.Repeat("1", 100000):              api.ErrSyntax,
		strings.Repeat("1 ", 100000):             api.ErrSyntax,
		strings.Repeat("0 1 0 - ", 100):          api.ErrSyntax,
		"0 1 0 0" + strings.Repeat(",0", 100000): api.ErrLarge,
		"0 1 0 0" + strings.Repeat(",0", 100000) + ",": api.ErrSyntax,
	}
	for _, s := range []string{
		"", " ", "   ", "0", "0 1", "0 1 0", "0 1 0 - -", "0 1 0 0 0", "- 1 0 0", "0 - 0 0", "0 1 - 0", "- - - -",
		" 0 1 0 -", "0 1 0 - ", "0  1 0 -", "0 1  0 -", "0 1 0  -", " 1 0 -", "0 1 0 ", "0 1  -",
		"0\t1 0 -", "0 1 0 -\n", "0 1 0 0\x00", "0,1 0 0 -", "x 1 0 -", "0 x 0 -", "0 1 x -", "0 1 0 x", "0 1 0 0,x",
		"-0 1 0 -", "-1 1 0 -", "0 -1 0 -", "0 1 -1 -", "0 1 -0 -", "0 1 0 -0", "0 1 0 -1", "0 1 0 0,-1", "0 1 0 -,1", "0 1 0 0,-", "0 1 0 -,-", "0 1 0 --",
		"+0 1 0 -", "0 +1 0 -", "0 1 +0 -", "0 1 0 +1", "00 1 0 -", "0 01 0 -", "0 1 00 -", "0 1 0 00", "0 1 0 0,01",
		"0 1 0 ,", "0 1 0 0,", "0 1 0 ,0", "0 1 0 0,,1", "0 1 0 -,", "0 1 0 ,-", "0 1 0 0, 1", "0 1 0 0;1", "0 1 0 0.1",
		"10000000 1 0 -", "0 10000000 0 -", "0 1 10000000 -", "0 1 0 10000000", "0 1 0 0,10000000", "0 0000001 0 -", "0 99999999999999999999 0 -", "0 1 0 99999999999999999999",
		"0x0 1 0 -", "0 1e1 0 -", "0 1.5 0 -", "0 1_0 0 -", "0 ١ 0 -", "0 1 0 −",
	} {
		wanted[s] = api.ErrSyntax
	}
	for s, want := range wanted {
		if x, e := works.ParseTask(s); e != want || !reflect.ValueOf(x).IsZero() {
			t.Errorf("%.60q: %v %v, not %v", s, x, e, want)
		}
	}
}

// P7.14: ParseLot and ParseTask reverse FormatLot and FormatTask.
func TestStringsAreReversed(t *testing.T) {
	r := numbers(15)
	for range 1000 {
		for _, x := range randomLots(&r) {
			most := []int{9, 1000000}[r.below(2)]
			x.Measured, x.Limits = r.between(-most, most), r.between(-most, most)
			if got, e := works.ParseLot(works.FormatLot(x)); e != api.OK || !isSameLot(got, x) {
				t.Fatal(x, got, e)
			}
		}
		for _, x := range randomPlan(&r, 7, []int{9, 10000}[r.below(2)]).Tasks {
			if got, e := works.ParseTask(works.FormatTask(x)); e != api.OK || !isSameTask(got, x) {
				t.Fatal(x, got, e)
			}
		}
	}
}

// spoiled returns a string with some bytes removed, replaced or added.
func spoiled(r *numbers, s string) string {
	const letters = "abc0123-, +"
	for range r.from(1, 3) {
		from := r.below(len(s))
		to := min(len(s), from+r.below(2))
		s = s[:from] + letters[r.below(len(letters)):][:r.below(2)] + s[to:]
	}
	return s
}

// P7.7: what a string is parsed to has this string.
func TestParsedHasTheString(t *testing.T) {
	r := numbers(16)
	lots, tasks := 0, 0
	for range 20000 {
		s := spoiled(&r, "abc b,ca,a -10 1 12 20")
		if x, e := works.ParseLot(s); e == api.OK {
			lots++
			if works.FormatLot(x) != s {
				t.Fatal(s, x)
			}
		}
		s = spoiled(&r, "2 31 10 0,1,3")
		if x, e := works.ParseTask(s); e == api.OK {
			tasks++
			if works.FormatTask(x) != s {
				t.Fatal(s, x)
			}
		}
	}
	if min(lots, tasks) < 2000 || max(lots, tasks) > 18000 {
		t.Error(lots, tasks)
	}
}
