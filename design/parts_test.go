package design_test

import (
	"strings"
	"testing"

	"buchholz/api"
	"buchholz/design"
)

// P2.8: the string of a part, whatever it is.
func TestFormatPart(t *testing.T) {
	for _, x := range []struct {
		p    api.DesignPart
		want string
	}{
		{exampleStock().Slots[1][1], "alu 30 4 4 0 0 0 0 30 33 0 0 0 0"},
		{api.DesignPart{}, " 0 0 0 0 0 0 0 0 0 0 0 0 0"},
		{api.DesignPart{Name: "a b", Price: -1, Values: [6]api.Range{{Lo: 1, Hi: 2}, {Lo: 3, Hi: 4}, {Lo: 5, Hi: 6}, {Lo: 7, Hi: 8}, {Lo: 9, Hi: 10}, {Lo: least, Hi: greatest}}}, "a b -1 1 2 3 4 5 6 7 8 9 10 -9223372036854775808 9223372036854775807"},
	} {
		if s := design.FormatPart(x.p); s != x.want {
			t.Errorf("%v: %q", x, s)
		}
	}
}

// P2.8: strings that are of no part's form, and parts that are not valid.
func TestParsePartErrors(t *testing.T) {
	const zeros = " 0 0 0 0 0 0 0 0 0 0 0 0 0"
	for s, want := range map[string]api.Errno{
		"":                                    api.ErrSyntax,
		"a":                                   api.ErrSyntax,
		zeros:                                 api.ErrSyntax,
		zeros[1:]:                             api.ErrSyntax,
		" a" + zeros:                          api.ErrSyntax,
		"a " + zeros:                          api.ErrSyntax,
		"a" + zeros + " ":                     api.ErrSyntax,
		"a" + zeros + " 0":                    api.ErrSyntax,
		"a 0 0 0 0 0 0 0 0 0 0 0 0":           api.ErrSyntax,
		"a 0 0 0 0 0 0 0 0 0 0 0 0 ":          api.ErrSyntax,
		"a  0 0 0 0 0 0 0 0 0 0 0 0":          api.ErrSyntax,
		"a\t0 0 0 0 0 0 0 0 0 0 0 0 0":        api.ErrSyntax,
		"a 0 0 0 0 0 0 0 0 0 0 0 0 0\n":       api.ErrSyntax,
		"a -1 0 0 0 0 0 0 0 0 0 0 0 0":        api.ErrSyntax,
		"a -0 0 0 0 0 0 0 0 0 0 0 0 0":        api.ErrSyntax,
		"a +1 0 0 0 0 0 0 0 0 0 0 0 0":        api.ErrSyntax,
		"a 00 0 0 0 0 0 0 0 0 0 0 0 0":        api.ErrSyntax,
		"a 01 0 0 0 0 0 0 0 0 0 0 0 0":        api.ErrSyntax,
		"a x 0 0 0 0 0 0 0 0 0 0 0 0":         api.ErrSyntax,
		"a 1. 0 0 0 0 0 0 0 0 0 0 0 0":        api.ErrSyntax,
		"a 10000000 0 0 0 0 0 0 0 0 0 0 0 0":  api.ErrSyntax,
		"a 0 0 0 0 0 0 0 0 0 0 0 0 10000000":  api.ErrSyntax,
		"? 0 0 0 0 0 0 0 0 0 0 0 0 99999999":  api.ErrSyntax,
		"?" + zeros:                           api.ErrName,
		"1" + zeros:                           api.ErrName,
		"abcdefghijklm" + zeros:               api.ErrName,
		"? 9999999 0 0 0 0 0 0 0 0 0 0 0 0":   api.ErrName,
		"a 9999999 0 0 0 0 0 0 0 0 0 0 0 0":   api.ErrRange,
		"a 1000001 1 0 0 0 0 0 0 0 0 0 0 0":   api.ErrRange,
		"a 0 0 1000001 0 0 0 0 0 0 0 0 0 0":   api.ErrRange,
		"a 0 0 0 0 0 0 0 0 0 0 0 0 1000001":   api.ErrRange,
		"a 0 1 0 0 0 0 0 0 0 0 0 0 1000001":   api.ErrOrder,
		"a 0 0 0 0 0 0 0 0 0 0 0 1 0":         api.ErrOrder,
		"a 1 2 1 0 0 0 0 0 0 0 0 0 0":         api.ErrOrder,
		"a" + strings.Repeat(" 0", 100000):    api.ErrSyntax,
		strings.Repeat("a", 100000) + zeros:   api.ErrName,
		strings.Repeat(" ", 100000):           api.ErrSyntax,
		"a" + zeros + strings.Repeat("0", 99): api.ErrSyntax,
	} {
		if p, e := design.ParsePart(s); e != want || p != (api.DesignPart{}) {
			t.Errorf("%.60q: %v %v", s, p, e)
		}
	}
}

// P2.8: the errors of the part are those of a stock.
func TestParseBadParts(t *testing.T) {
	for _, b := range badParts() {
		s := design.FormatPart(b.part)
		want := b.want
		if b.part.Name == "" || strings.ContainsAny(s, "-") && !strings.HasPrefix(s, "-") || strings.Contains(b.part.Name, " ") {
			want = api.ErrSyntax
		}
		if p, e := design.ParsePart(s); e != want || p != (api.DesignPart{}) {
			t.Errorf("%q: %v %v", s, p, e)
		}
	}
}

// P2.16: ParsePart reverses FormatPart.
func TestParsePartReverses(t *testing.T) {
	if p := part(t, "alu 30 4 4 0 0 0 0 30 33 0 0 0 0"); p != exampleStock().Slots[1][1] {
		t.Error(p)
	}
	r := numbers(12)
	for range 500 {
		p := api.DesignPart{Name: []string{"a", "Z", "a-9", "abcdefghijkl"}[r.below(4)], Price: r.below(api.MaxDesignValue + 1)}
		for q := range p.Values {
			lo := r.below(api.MaxDesignValue + 1)
			p.Values[q] = api.Range{Lo: lo, Hi: lo + r.below(api.MaxDesignValue+1-lo)}
		}
		if q, e := design.ParsePart(design.FormatPart(p)); e != api.OK || q != p {
			t.Error(p, q, e)
		}
	}
}
