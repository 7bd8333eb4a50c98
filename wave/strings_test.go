package wave_test

import (
	"reflect"
	"slices"
	"strings"
	"testing"

	"buchholz/api"
	"buchholz/wave"
)

// P8.6: the string of a record, whatever it is.
func TestFormatRecord(t *testing.T) {
	for want, x := range map[string]api.WaveRecord{
		"1 0 30 60":                    record(1, 0, 30, 60),
		"1 0 30 60 100 90 70 52 40 20": first(),
		"0":                            {},
		"5":                            {Step: 5, Samples: []int{}},
		"-3 7":                         record(-3, 7),
		"1000000 -4096 4096 -1":        record(1000000, -4096, 4096, -1),
		"9223372036854775807 -9223372036854775808 123456789": record(greatest, least, 123456789),
	} {
		if s := wave.FormatRecord(x); s != want {
			t.Errorf("%v: %q, not %q", x, s, want)
		}
	}
	if s := wave.FormatRecord(record(7, make([]int, 1000)...)); s != "7"+strings.Repeat(" 0", 1000) {
		t.Error(s)
	}
}

// P8.6: the string of rules, whatever they are.
func TestFormatRules(t *testing.T) {
	for want, r := range map[string]api.WaveRules{
		"1;1/1 4/1;2/1 5/2":            rules(1, factor(1, 1, 4, 1), factor(2, 1, 5, 2)),
		"0;1/1 4/1":                    plain(0),
		"0;0/0 0/0":                    {},
		"3;1/2 3/4":                    {Error: 3, Factors: factor(1, 2, 3, 4), Chain: []api.Span{}},
		"-1;-1/-2 4/2;0/0 0/0;9/3 5/1": rules(-1, factor(-1, -2, 4, 2), api.Span{}, factor(9, 3, 5, 1)),
		"100;1/1000 1000/1;7/8 8/7;1/1 1/1;6/5 5/4;999/1000 1000/999":      rules(100, factor(1, 1000, 1000, 1), factor(7, 8, 8, 7), factor(1, 1, 1, 1), factor(6, 5, 5, 4), factor(999, 1000, 1000, 999)),
		"9223372036854775807;-9223372036854775808/1 1/9223372036854775807": rules(greatest, factor(least, 1, 1, greatest)),
	} {
		if s := wave.FormatRules(r); s != want {
			t.Errorf("%v: %q, not %q", r, s, want)
		}
	}
	if s := wave.FormatRules(rules(1, factor(1, 1, 4, 1), make([]api.Span, 1000)...)); s != "1;1/1 4/1"+strings.Repeat(";0/0 0/0", 1000) {
		t.Error(s)
	}
}

// isSameRecord returns whether two records have the same parts.
func isSameRecord(a, b api.WaveRecord) bool {
	return a.Step == b.Step && slices.Equal(a.Samples, b.Samples)
}

// isSameRules returns whether rules have the same parts.
func isSameRules(a, b api.WaveRules) bool {
	return a.Error == b.Error && a.Factors == b.Factors && slices.Equal(a.Chain, b.Chain)
}

// P8.6: strings with a record.
func TestParseRecord(t *testing.T) {
	for s, want := range map[string]api.WaveRecord{
		"1 0 30 60":                      record(1, 0, 30, 60),
		"1000000 -4096 4096 -1":          record(1000000, -4096, 4096, -1),
		"7 0 0 0 0":                      record(7, 0, 0, 0, 0),
		"2" + strings.Repeat(" -10", 64): record(2, slices.Repeat([]int{-10}, 64)...),
	} {
		if x, e := wave.ParseRecord(s); e != api.OK || !isSameRecord(x, want) {
			t.Errorf("%q: %v %v", s, x, e)
		}
	}
}

// P8.6: strings that are not those of a record.
func TestParseRecordErrors(t *testing.T) {
	wanted := map[string]api.Errno{
		"0 1 2 3":                                api.ErrRange,
		"1000001 1 2 3":                          api.ErrRange,
		"9999999 1 2 3":                          api.ErrRange,
		"0":                                      api.ErrRange, // the step before the number of samples
		"1":                                      api.ErrShape, // a record without samples
		"1 5":                                    api.ErrShape,
		"1 5 6":                                  api.ErrShape,
		"1 9999999 6":                            api.ErrShape,
		"1" + strings.Repeat(" 0", 65):           api.ErrLarge,
		"1" + strings.Repeat(" 9999", 65):        api.ErrLarge,
		"0" + strings.Repeat(" 9999", 65):        api.ErrRange,
		"1 4097 0 0":                             api.ErrRange,
		"1 0 0 -4097":                            api.ErrRange,
		"1 0 9999999 0":                          api.ErrRange,
		"1 0 -9999999 0":                         api.ErrRange,
		"0 5 x":                                  api.ErrSyntax, // before the errors of the record
		"9999999 9999999 ":                       api.ErrSyntax,
		"1" + strings.Repeat(" 0", 100) + " ":    api.ErrSyntax,
		"1" + strings.Repeat(" 0", 29999):        api.ErrLarge, // 59999 bytes
		"10" + strings.Repeat(" 0", 29999):       api.ErrLarge, // 60000 bytes
		"0" + strings.Repeat(" 0", 29999):        api.ErrRange,
		"0" + strings.Repeat(" 0", 30000):        api.ErrLarge, // 60001 bytes
		strings.Repeat("x", 60000):               api.ErrSyntax,
		strings.Repeat(" ", 60000):               api.ErrSyntax,
		strings.Repeat("x", 60001):               api.ErrLarge, // before the syntax
		strings.Repeat(" ", 60001):               api.ErrLarge,
		"1" + strings.Repeat("0", 100000):        api.ErrLarge,
		"1 0 30 60" + strings.Repeat(" ", 60000): api.ErrLarge,
	}
	for _, s := range []string{
		"", " ", "  ", "-", "x", "1 ", " 1", "1 0 30 ", "1 0 30 60 ", " 1 0 30 60", "1  0 30 60", "1 0  30 60", "1 0 30  60",
		"1 0 30 60\n", "1\t0 30 60", "1 0 30\t60", "1,0,30,60", "1 0 30 60;", "1;0 30 60", "1 0 30 6o", "1 0 30 60\x00",
		"-1 0 30 60", "-0 0 30 60", "- 0 30 60", "+1 0 30 60", "1 +0 30 60", "1 0 -0 60", "1 0 - 60", "1 0 -- 60", "1 0 --3 60", "1 0 3- 60", "1 0 -03 60", "1 0 -+3 60",
		"01 0 30 60", "1 00 30 60", "1 0 030 60", "1 0 30 0060", "0000001 0 30 60",
		"10000000 0 30 60", "1 10000000 30 60", "1 0 -10000000 60", "1 0 30 99999999999999999999", "1 0 30 -99999999999999999999",
		"1 0 3.0 60", "1 0 3e1 60", "1 0 0x3 60", "1 0 3_0 60", "1 0 ٣ 60", "1 0 −3 60", "1 0 3/1 60",
	} {
		wanted[s] = api.ErrSyntax
	}
	for s, want := range wanted {
		if x, e := wave.ParseRecord(s); e != want || !reflect.ValueOf(x).IsZero() {
			t.Errorf("%.60q: %v %v, not %v", s, x, e, want)
		}
	}
}

// P8.6: strings with rules.
func TestParseRules(t *testing.T) {
	for s, want := range map[string]api.WaveRules{
		"1;1/1 4/1;2/1 5/2": rules(1, factor(1, 1, 4, 1), factor(2, 1, 5, 2)),
		"0;1/1 1/1":         rules(0, factor(1, 1, 1, 1)),
		"100;1/1000 1000/1;7/8 8/7;1/1 1/1;6/5 5/4;999/1000 1000/999": rules(100, factor(1, 1000, 1000, 1), factor(7, 8, 8, 7), factor(1, 1, 1, 1), factor(6, 5, 5, 4), factor(999, 1000, 1000, 999)),
	} {
		if r, e := wave.ParseRules(s); e != api.OK || !isSameRules(r, want) {
			t.Errorf("%q: %v %v", s, r, e)
		}
	}
}

// P8.6: strings that are not those of rules.
func TestParseRulesErrors(t *testing.T) {
	wanted := map[string]api.Errno{
		"101;1/1 4/1":               api.ErrRange,
		"9999;1/1 4/1":              api.ErrRange,
		"101;0/0 4/1":               api.ErrRange,
		"1;0/0 4/1":                 api.ErrForm,
		"1;1/1 4/0":                 api.ErrForm,
		"1;1/1 4/2":                 api.ErrForm,
		"1;0/2 4/1":                 api.ErrForm,
		"1;9998/9996 4/1":           api.ErrForm,
		"1;1001/1 4/2":              api.ErrForm,
		"1;0/1 4/1":                 api.ErrRange,
		"1;1/1 1001/1":              api.ErrRange,
		"1;1/9999 4/1":              api.ErrRange,
		"1;2/1 1/1":                 api.ErrOrder,
		"1;1/1 4/1;5/2 2/1":         api.ErrOrder,
		"1;1/1 4/1;2/1 5/2;2/2 5/2": api.ErrForm,
		"1;1/1 4/1;5/2 2/1;2/2 5/2": api.ErrOrder,
		"1;1/1 4/1" + strings.Repeat(";1/1 1/1", 5): api.ErrLarge,
		"1;1/1 4/1" + strings.Repeat(";0/0 1/1", 5): api.ErrLarge,
		"1;2/1 1/1" + strings.Repeat(";1/1 1/1", 5): api.ErrOrder,
		"101;2/2 1/1;x": api.ErrSyntax, // before the errors of the rules
		"1;1/1 4/1" + strings.Repeat(";1/1 1/1", 5) + ";": api.ErrSyntax,
		"101;1/1 4/1" + strings.Repeat(";1/1 1/1", 7498):  api.ErrRange, // 59995 bytes
		"101;1/1 4/1" + strings.Repeat(";1/1 1/1", 7499):  api.ErrLarge, // 60003 bytes
		strings.Repeat(";", 60000):                        api.ErrSyntax,
		strings.Repeat(";", 60001):                        api.ErrLarge, // before the syntax
		"1;1/1 4/1" + strings.Repeat(" ", 60000):          api.ErrLarge,
	}
	for _, s := range []string{
		"", ";", "1", "1;", "1;;", ";1/1 4/1", "1;1/1 4/1;", "1;;1/1 4/1", ";1;1/1 4/1", "x;1/1 4/1", "1 1/1 4/1", "1,1/1 4/1",
		"1;1/1", "1;1/1 ", "1; 4/1", "1;1/1 4/1 5/1", "1;1/1  4/1", "1; 1/1 4/1", "1 ;1/1 4/1", " 1;1/1 4/1", "1;1/1 4/1 ", "1;1/1 4/1\n", "1;1/1\t4/1",
		"1;1 4/1", "1;1/1 4", "1;1/ 4/1", "1;/1 4/1", "1;1/1 4/", "1;1/1 /1", "1;1/1/1 4/1", "1;1/1 4/1/1", "1;1//1 4/1", "1;/ /", "1;1:1 4:1", "1;1 /1 4/1", "1;1/1 4/1;2/1", "1;1/1 4/1;2/1 5", "1;1/1 4/1;x",
		"-1;1/1 4/1", "-0;1/1 4/1", "+1;1/1 4/1", "1;-1/1 4/1", "1;1/-1 4/1", "1;1/1 +4/1", "1;1/1 4/1;-2/1 5/2", "1;-0/1 4/1",
		"01;1/1 4/1", "00;1/1 4/1", "1;01/1 4/1", "1;1/01 4/1", "1;1/1 04/1", "1;1/1 4/00",
		"10000;1/1 4/1", "0001;1/1 4/1", "1;10000/1 4/1", "1;1/10000 4/1", "1;1/1 4/1;1/1 10000/1", "1;1/1 4/1;1/1 1/99999999999999999999",
		"1.0;1/1 4/1", "1;1.5 4/1", "1;1/1 4/1;٢/1 5/2", "1;1/1 4/1;2/1 5⁄2",
	} {
		wanted[s] = api.ErrSyntax
	}
	for s, want := range wanted {
		if r, e := wave.ParseRules(s); e != want || !reflect.ValueOf(r).IsZero() {
			t.Errorf("%.60q: %v %v, not %v", s, r, e, want)
		}
	}
}

// P8.13: ParseRecord and ParseRules reverse FormatRecord and FormatRules.
func TestStringsAreReversed(t *testing.T) {
	r := numbers(22)
	for range 3000 {
		x := record(r.from(1, r.oneOf(9, 1000000)), r.samples(r.from(3, 64), r.oneOf(9, 4096))...)
		if got, e := wave.ParseRecord(wave.FormatRecord(x)); e != api.OK || !isSameRecord(got, x) {
			t.Fatal(x, got, e)
		}
		rule := r.rules(100)
		if got, e := wave.ParseRules(wave.FormatRules(rule)); e != api.OK || !isSameRules(got, rule) {
			t.Fatal(rule, got, e)
		}
	}
}

// spoiled returns a string with some bytes removed, replaced or added.
func spoiled(r *numbers, s string) string {
	const letters = "0123- /;+"
	for range r.from(1, 3) {
		from := r.below(len(s))
		to := min(len(s), from+r.below(2))
		s = s[:from] + letters[r.below(len(letters)):][:r.below(2)] + s[to:]
	}
	return s
}

// P8.6: what a string is parsed to has this string.
func TestParsedHasTheString(t *testing.T) {
	r := numbers(23)
	recordsSeen, rulesSeen := 0, 0
	for range 20000 {
		s := spoiled(&r, "10 -20 345 0 -1")
		if x, e := wave.ParseRecord(s); e == api.OK {
			recordsSeen++
			if wave.FormatRecord(x) != s {
				t.Fatal(s, x)
			}
		}
		s = spoiled(&r, "12;1/13 40/11;23/10 25/7")
		if x, e := wave.ParseRules(s); e == api.OK {
			rulesSeen++
			if wave.FormatRules(x) != s {
				t.Fatal(s, x)
			}
		}
	}
	if min(recordsSeen, rulesSeen) < 2000 || max(recordsSeen, rulesSeen) > 18000 {
		t.Error(recordsSeen, rulesSeen)
	}
}
