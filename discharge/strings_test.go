package discharge_test

import (
	"reflect"
	"strings"
	"testing"

	"buchholz/api"
	"buchholz/discharge"
)

// P9.8: the tenth example, and the strings of series that are not valid.
func TestFormatSeries(t *testing.T) {
	named := first()
	named.Sensor = "a b;c/\xff"
	for want, s := range map[string]api.DischargeSeries{
		"hfct 120 2 1/2 2/3;5 -20 3":                          levelled(plain(pulse(5, -20, 3)), 2),
		"hfct 120 1 1/2 2/3":                                  plain(),
		"hfct 120 1 1/2 2/3;5 -20 3;65 25 12;125 -30 4":       first(),
		"a b;c/\xff 120 1 1/2 2/3;5 -20 3;65 25 12;125 -30 4": named,
		" 0 0 0/0 0/0":                                        {},
		"hfct -1 -2 -3/-4 -5/-6;-7 0 -8":                      series(-1, -2, calibration(-3, -4, -5, -6), pulse(-7, 0, -8)),
		"hfct 9223372036854775807 -9223372036854775808 9223372036854775807/-9223372036854775808 4/2;-9223372036854775808 9223372036854775807 -9223372036854775808": series(greatest, least, calibration(greatest, least, 4, 2), pulse(least, greatest, least)),
	} {
		if got := discharge.FormatSeries(s); got != want {
			t.Errorf("%v: %q, not %q", s, got, want)
		}
	}
	if got := discharge.FormatSeries(plain(make([]api.DischargePulse, 1000)...)); got != "hfct 120 1 1/2 2/3"+strings.Repeat(";0 0 0", 1000) {
		t.Error(got)
	}
}

// P9.8: strings with a series.
func TestParseSeries(t *testing.T) {
	lowest := series(1, 1, calibration(1, 1000000000, 1, 1000000000), pulse(0, 1, 1))
	lowest.Sensor = "a"
	greatest := series(1000000, 60, calibration(1000000000, 1, 1000000000, 1), pulse(999999999999, 4096, 100), pulse(1000000000000, -4096, 10))
	greatest.Sensor = "Abc-xyz-0123"
	for s, want := range map[string]api.DischargeSeries{
		"hfct 120 2 1/2 2/3;5 -20 3":                    levelled(plain(pulse(5, -20, 3)), 2),
		"hfct 120 1 1/2 2/3":                            plain(),
		"hfct 120 1 1/2 2/3;5 -20 3;65 25 12;125 -30 4": first(),
		"a 1 1 1/1000000000 1/1000000000;0 1 1":         lowest,
		"Abc-xyz-0123 1000000 60 1000000000/1 1000000000/1;999999999999 4096 100;1000000000000 -4096 10": greatest,
	} {
		if x, e := discharge.ParseSeries(s); e != api.OK || !isSame(x, want) {
			t.Errorf("%q: %v %v", s, x, e)
		}
	}
}

// malformed returns strings that are not those of a series.
func malformed() []string {
	l := []string{
		"", " ", ";", "hfct", "hfct ", "hfct 120", "hfct 120 2", "hfct 120 2 1/2", "hfct 120 2 1/2 ", "hfct 120 2 1/2 2/3 ", "hfct 120 2 1/2 2/3 4/3",
		"hfct  120 2 1/2 2/3", "hfct 120  2 1/2 2/3", "hfct 120 2  1/2 2/3", "hfct 120 2 1/2  2/3", "  120 2 1/2 2/3", " hfct 120 2 1/2 2/3", "hf ct 120 2 1/2 2/3",
		"hfct\t120 2 1/2 2/3", "hfct 120 2 1/2 2/3\n", "hfct,120,2,1/2,2/3", "hfct;120 2 1/2 2/3", "hf;ct 120 2 1/2 2/3", "120 2 1/2 2/3",
	}
	for _, number := range []string{"", "-", "-1", "-0", "+1", "01", "00", "1.0", "1e1", "0x1", "1_0", "x", "٣", "1,0", "12345678901234", "00000000000001", "99999999999999999999", "1\x00"} {
		l = append(l,
			"hfct "+number+" 2 1/2 2/3", "hfct 120 "+number+" 1/2 2/3",
			"hfct 120 2 "+number+"/2 2/3", "hfct 120 2 1/"+number+" 2/3", "hfct 120 2 1/2 "+number+"/3", "hfct 120 2 1/2 2/"+number,
			"hfct 120 2 1/2 2/3;"+number+" -20 3", "hfct 120 2 1/2 2/3;5 -20 "+number, "hfct 120 2 1/2 2/3;5 -20 3;"+number+" 25 12",
		)
	}
	for _, amplitude := range []string{"", "-", "--1", "-0", "+1", "-+1", "01", "-01", "1-", "-1.0", "-x", "−1", "12345678901234", "-12345678901234", "-00000000000001", "-99999999999999999999"} {
		l = append(l, "hfct 120 2 1/2 2/3;5 "+amplitude+" 3", "hfct 120 2 1/2 2/3;5 -20 3;65 "+amplitude+" 12")
	}
	for _, end := range []string{"1", "1/", "/1", "/", "1/2/3", "1//2", "1 /2", "1/ 2", "1:2", "1⁄2", "-1/2", "1/-2"} {
		l = append(l, "hfct 120 2 "+end+" 2/3", "hfct 120 2 1/2 "+end, "hfct 120 2 1/2 "+end+";5 -20 3")
	}
	for _, part := range []string{"", " ", ";", ";5 -20 3", "5", "5 ", "5 -20", "5 -20 ", "5 -20 3 ", " 5 -20 3", "5  -20 3", "5 -20  3", "5 -20 3 4", "5,-20,3", "5 -20 3\n", "5 -20 3;", "5 -20 3; 65 25 12", "5 -20 3 ;65 25 12"} {
		l = append(l, "hfct 120 2 1/2 2/3;"+part)
	}
	return l
}

// P9.8: strings that are malformed, too long, or those of series that are not valid.
func TestParseSeriesErrors(t *testing.T) {
	wanted := map[string]api.Errno{
		" 120 2 1/2 2/3":                                             api.ErrName, // what lies before the first blank is empty
		" 120 2 1/2 2/3;5 -20 3":                                     api.ErrName,
		"1 120 2 1/2 2/3":                                            api.ErrName,
		"h_f 120 2 1/2 2/3":                                          api.ErrName,
		"hf\tct 120 2 1/2 2/3":                                       api.ErrName,
		"1/2 0 0 0/0 0/0":                                            api.ErrName,
		"abcdefghijklm 120 2 1/2 2/3":                                api.ErrName,
		"hfct 0 2 1/2 2/3":                                           api.ErrRange,
		"hfct 1000001 2 1/2 2/3":                                     api.ErrRange,
		"hfct 9999999999999 2 1/2 2/3;5 -20 3":                       api.ErrRange,
		"hfct 120 0 1/2 2/3":                                         api.ErrRange,
		"hfct 120 61 1/2 2/3":                                        api.ErrRange,
		"hfct 120 2 0/0 2/3":                                         api.ErrForm,
		"hfct 120 2 1/2 2/0":                                         api.ErrForm,
		"hfct 120 2 1/2 4/6":                                         api.ErrForm,
		"hfct 120 2 0/2 2/3":                                         api.ErrForm,
		"hfct 120 2 0/1 2/3":                                         api.ErrRange,
		"hfct 120 2 1/9999999999999 2/3":                             api.ErrRange,
		"hfct 120 2 1/2 9999999999999/1":                             api.ErrRange,
		"hfct 120 2 2/3 1/2":                                         api.ErrOrder,
		"hfct 120 2 2/3 1/2;5 0 3":                                   api.ErrOrder,
		"hfct 120 2 1/2 2/3;1000000000001 -20 3":                     api.ErrRange,
		"hfct 120 2 1/2 2/3;9999999999999 -20 3":                     api.ErrRange,
		"hfct 120 2 1/2 2/3;5 -4097 3":                               api.ErrRange,
		"hfct 120 2 1/2 2/3;5 -9999999999999 3":                      api.ErrRange,
		"hfct 120 2 1/2 2/3;5 9999999999999 3":                       api.ErrRange,
		"hfct 120 2 1/2 2/3;5 -20 0":                                 api.ErrRange,
		"hfct 120 2 1/2 2/3;5 -20 9999999999999":                     api.ErrRange,
		"hfct 120 2 1/2 2/3;5 0 3":                                   api.ErrZero,
		"hfct 120 2 1/2 2/3;5 -20 3;5 -20 3":                         api.ErrOrder,
		"hfct 120 2 1/2 2/3;5 -20 3;4 0 3":                           api.ErrZero,
		"hfct 120 2 1/2 2/3" + strings.Repeat(";5 -20 3", 61):        api.ErrLarge,
		"hfct 120 2 1/2 2/3" + strings.Repeat(";5 0 3", 60):          api.ErrZero,
		"hfct 0 2 2/2 2/3;5 -20":                                     api.ErrSyntax, // before the errors of the series
		"1 120 2 1/2 2/3;5 -20 3;":                                   api.ErrSyntax,
		"hfct 120 2 1/2 2/3" + strings.Repeat(";5 -20 3", 61) + ";x": api.ErrSyntax,
		"hfct 120 1 1/2 2/3;" + strings.Repeat(";", 59981):           api.ErrSyntax, // 60000 bytes
		"hfct 120 1 1/2 2/3" + strings.Repeat(";0 -1 1", 8569):       api.ErrLarge,  // 60001 bytes, and too many pulses
		"hfct 1200 1 1/2 2/3" + strings.Repeat(";9 -1 1", 8568):      api.ErrLarge,  // 59995 bytes, and too many pulses
		"hfct 0 1 1/2 2/3" + strings.Repeat(";0 -1 1", 8569):         api.ErrRange,  // 59999 bytes
		"hfct 00 1 1/2 2/3" + strings.Repeat(";0 -1 1", 8569):        api.ErrSyntax, // 60000 bytes
		"hfct 000 1 1/2 2/3" + strings.Repeat(";0 -1 1", 8569):       api.ErrLarge,  // 60001 bytes: before the syntax
		strings.Repeat("x", 60000):                                   api.ErrSyntax,
		strings.Repeat("x", 60001):                                   api.ErrLarge,
		strings.Repeat(" ", 60000):                                   api.ErrSyntax,
		strings.Repeat(";", 60001):                                   api.ErrLarge,
		strings.Repeat("a", 59986) + " 120 2 1/2 2/3":                api.ErrName,
		strings.Repeat("a", 59987) + " 120 2 1/2 2/3":                api.ErrLarge,
	}
	for _, s := range malformed() {
		wanted[s] = api.ErrSyntax
	}
	for s, want := range wanted {
		if x, e := discharge.ParseSeries(s); e != want || !reflect.ValueOf(x).IsZero() {
			t.Errorf("%.60q (%d): %v %v, not %v", s, len(s), x, e, want)
		}
	}
}

// P9.16: ParseSeries reverses FormatSeries.
func TestStringsAreReversed(t *testing.T) {
	r := numbers(17)
	for range 2000 {
		s := r.series(60)
		if got, e := discharge.ParseSeries(discharge.FormatSeries(s)); e != api.OK || !isSame(got, s) {
			t.Fatal(s, got, e)
		}
	}
}

// spoiled returns a string with some bytes removed, replaced or added.
func spoiled(r *numbers, s string) string {
	const letters = "0123- /;+a"
	for range r.from(1, 3) {
		from := r.below(len(s))
		to := min(len(s), from+r.below(2))
		s = s[:from] + letters[r.below(len(letters)):][:r.below(2)] + s[to:]
	}
	return s
}

// P9.8: what a string is parsed to has this string.
func TestParsedHasTheString(t *testing.T) {
	r := numbers(18)
	seen := 0
	for range 20000 {
		s := spoiled(&r, "hf-ct 120 13 10/21 25/37;15 -20 33;62 25 12;1125 -30 14")
		if x, e := discharge.ParseSeries(s); e == api.OK {
			seen++
			if discharge.FormatSeries(x) != s {
				t.Fatal(s, x)
			}
		}
	}
	if seen < 2000 || seen > 18000 {
		t.Error(seen)
	}
}
