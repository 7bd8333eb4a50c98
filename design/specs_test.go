package design_test

import (
	"reflect"
	"strconv"
	"strings"
	"testing"

	"buchholz/api"
	"buchholz/design"
)

// P2.1: the string of a specification, whatever it is.
func TestFormatSpec(t *testing.T) {
	term := func(factor, quantity int) api.DesignTerm {
		return api.DesignTerm{Factor: factor, Quantity: quantity}
	}
	for _, x := range []struct {
		l    []api.DesignRequirement
		want string
	}{
		{nil, ""},
		{[]api.DesignRequirement{{}}, "<= 0 kg"},
		{[]api.DesignRequirement{{}, {AtLeast: true, Limit: -5, Unit: 2}}, "<= 0 kg ; >= -5 mm"},
		{[]api.DesignRequirement{requirement(0, 30, term(2, 0), term(-1, 1))}, "2*mass - copper <= 30 kg"},
		{[]api.DesignRequirement{requirement(1, 40, term(1, 2), term(1, 3))}, "idle + load <= 40 W"},
		{[]api.DesignRequirement{requirement(2, 7, term(-1, 4), term(-12, 5), term(3, 4))}, "- height - 12*width + 3*height <= 7 mm"},
		{[]api.DesignRequirement{requirement(0, 1, term(0, 0), term(0, 1))}, "0*mass + 0*copper <= 1 kg"},
		{[]api.DesignRequirement{requirement(3, least, term(1, 6), term(-2, -1))}, "? - 2*? <= -9223372036854775808 ?"},
		{[]api.DesignRequirement{requirement(-1, greatest, term(least, least), term(greatest, greatest))}, "- 9223372036854775808*? + 9223372036854775807*? <= 9223372036854775807 ?"},
	} {
		if s := design.FormatSpec(api.DesignSpec{Requirements: x.l}); s != x.want {
			t.Errorf("%v: %q", x, s)
		}
	}
}

// P2.1: strings with a specification.
func TestParseSpec(t *testing.T) {
	for s, want := range map[string][]api.DesignRequirement{
		"mass <= 18 kg":               {requirement(0, 18, api.DesignTerm{Factor: 1})},
		"mass <= -5 kg":               {requirement(0, -5, api.DesignTerm{Factor: 1})},
		"- mass <= 0 kg":              {requirement(0, 0, api.DesignTerm{Factor: -1})},
		"- 1000*copper <= 9 kg":       {requirement(0, 9, api.DesignTerm{Factor: -1000, Quantity: 1})},
		"2*load <= -1000000000 W":     {requirement(1, -1000000000, api.DesignTerm{Factor: 2, Quantity: 3})},
		"999*height <= 1000000000 mm": {requirement(2, 1000000000, api.DesignTerm{Factor: 999, Quantity: 4})},
		"2*mass - copper >= 30 kg": {{
			Terms:   []api.DesignTerm{{Factor: 2}, {Factor: -1, Quantity: 1}},
			AtLeast: true, Limit: 30,
		}},
		"width + 3*height <= 1 mm ; idle >= 2 W": {
			requirement(2, 1, api.DesignTerm{Factor: 1, Quantity: 5}, api.DesignTerm{Factor: 3, Quantity: 4}),
			{Terms: []api.DesignTerm{{Factor: 1, Quantity: 2}}, AtLeast: true, Limit: 2, Unit: 1},
		},
	} {
		x, i, e := design.ParseSpec(s)
		if e != api.OK || i != 0 || !reflect.DeepEqual(x.Requirements, want) {
			t.Errorf("%q: %v %v %v", s, x, i, e)
		}
	}
}

type badString struct {
	s    string
	word int
	want api.Errno
}

func checkBadStrings(t *testing.T, l []badString) {
	t.Helper()
	for _, x := range l {
		spec, i, e := design.ParseSpec(x.s)
		if e != x.want || i != x.word || len(spec.Requirements) != 0 {
			t.Errorf("%q: %v %v %v", x.s, spec, i, e)
		}
	}
}

// P2.1: words that cannot stand where they do, and strings that end too early.
func TestParseSpecSyntax(t *testing.T) {
	checkBadStrings(t, []badString{
		{"", 0, api.ErrSyntax},
		{" ", 0, api.ErrSyntax},
		{" mass <= 3 kg", 0, api.ErrSyntax},
		{"mass", 1, api.ErrSyntax},
		{"mass ", 1, api.ErrSyntax},
		{"mass <=", 2, api.ErrSyntax},
		{"mass <= 3", 3, api.ErrSyntax},
		{"mass <= 3 ", 3, api.ErrSyntax},
		{"mass <= 3 kg ", 4, api.ErrSyntax},
		{"mass <= 3 kg ;", 5, api.ErrSyntax},
		{"mass <= 3 kg ; ", 5, api.ErrSyntax},
		{"mass <= 3 kg ; ;", 5, api.ErrSyntax},
		{"mass <= 3 kg mass <= 3 kg", 4, api.ErrSyntax},
		{"mass <= 3 kg + load <= 3 W", 4, api.ErrSyntax},
		{"mass  <= 3 kg", 1, api.ErrSyntax},
		{"mass <=  3 kg", 2, api.ErrSyntax},
		{"mass\t<= 3 kg", 0, api.ErrSyntax},
		{"mass <= 3 kg\n", 3, api.ErrSyntax},
		{"mass < 3 kg", 1, api.ErrSyntax},
		{"mass = 3 kg", 1, api.ErrSyntax},
		{"mass => 3 kg", 1, api.ErrSyntax},
		{"mass copper <= 3 kg", 1, api.ErrSyntax},
		{"mass ; copper <= 3 kg", 1, api.ErrSyntax},
		{"<= 3 kg", 0, api.ErrSyntax},
		{"3 >= mass", 0, api.ErrSyntax},
		{"; mass <= 3 kg", 0, api.ErrSyntax},
		{"+ mass <= 3 kg", 0, api.ErrSyntax},
		{"-", 1, api.ErrSyntax},
		{"- - mass <= 3 kg", 1, api.ErrSyntax},
		{"- + mass <= 3 kg", 1, api.ErrSyntax},
		{"-mass <= 3 kg", 0, api.ErrSyntax},
		{"mass +", 2, api.ErrSyntax},
		{"mass + + copper <= 3 kg", 2, api.ErrSyntax},
		{"mass - <= 3 kg", 2, api.ErrSyntax},
		{"mass + -copper <= 3 kg", 2, api.ErrSyntax},
		{"Mass <= 3 kg", 0, api.ErrSyntax},
		{"masses <= 3 kg", 0, api.ErrSyntax},
		{"mas <= 3 kg", 0, api.ErrSyntax},
		{"? <= 3 kg", 0, api.ErrSyntax},
		{"mass <= 3 ?", 3, api.ErrSyntax},
		{"mass <= 3 Kg", 3, api.ErrSyntax},
		{"mass <= 3 w", 3, api.ErrSyntax},
		{"mass <= 3 kg;", 3, api.ErrSyntax},
		{"mass <= 3kg", 2, api.ErrSyntax},
		{"2*mass + ? <= 3 kg", 2, api.ErrSyntax},
	})
}

// P2.1: the numbers that may stand, and those that are too great.
func TestParseSpecNumbers(t *testing.T) {
	checkBadStrings(t, []badString{
		{"0*mass <= 3 kg", 0, api.ErrSyntax},
		{"1*mass <= 3 kg", 0, api.ErrSyntax},
		{"02*mass <= 3 kg", 0, api.ErrSyntax},
		{"-2*mass <= 3 kg", 0, api.ErrSyntax},
		{"+2*mass <= 3 kg", 0, api.ErrSyntax},
		{"*mass <= 3 kg", 0, api.ErrSyntax},
		{"2* <= 3 kg", 0, api.ErrSyntax},
		{"2*? <= 3 kg", 0, api.ErrSyntax},
		{"2 * mass <= 3 kg", 0, api.ErrSyntax},
		{"2**mass <= 3 kg", 0, api.ErrSyntax},
		{"2*mass* <= 3 kg", 0, api.ErrSyntax},
		{"2*3*mass <= 3 kg", 0, api.ErrSyntax},
		{"2mass <= 3 kg", 0, api.ErrSyntax},
		{"mass*2 <= 3 kg", 0, api.ErrSyntax},
		{"2x*mass <= 3 kg", 0, api.ErrSyntax},
		{"10000*mass <= 3 kg", 0, api.ErrSyntax},
		{"99999999999999999999*mass <= 3 kg", 0, api.ErrSyntax},
		{"2000*masses <= 3 kg", 0, api.ErrSyntax},
		{"1001*mass <= 3 kg", 0, api.ErrRange},
		{"- 9999*mass <= 3 kg", 1, api.ErrRange},
		{"mass <= 03 kg", 2, api.ErrSyntax},
		{"mass <= +3 kg", 2, api.ErrSyntax},
		{"mass <= - kg", 2, api.ErrSyntax},
		{"mass <= - 3 kg", 2, api.ErrSyntax},
		{"mass <= -0 kg", 2, api.ErrSyntax},
		{"mass <= -03 kg", 2, api.ErrSyntax},
		{"mass <= --3 kg", 2, api.ErrSyntax},
		{"mass <= 3.5 kg", 2, api.ErrSyntax},
		{"mass <= kg", 2, api.ErrSyntax},
		{"mass <= 10000000000 kg", 2, api.ErrSyntax},
		{"mass <= -10000000000 kg", 2, api.ErrSyntax},
		{"mass <= " + strings.Repeat("9", 50) + " kg", 2, api.ErrSyntax},
		{"mass <= 1000000001 kg", 2, api.ErrRange},
		{"mass <= 9999999999 kg", 2, api.ErrRange},
		{"mass <= -1000000001 kg", 2, api.ErrRange},
		{"mass >= 1000000001 W", 2, api.ErrRange},
	})
}

// P2.1: quantities that occur before, other units, and too many requirements; of several errors of a word the first one.
func TestParseSpecErrors(t *testing.T) {
	six := strings.Repeat("mass <= 1 kg ; ", 6)
	checkBadStrings(t, []badString{
		{"mass + mass <= 3 kg", 2, api.ErrDouble},
		{"- mass - 2*mass <= 3 kg", 3, api.ErrDouble},
		{"mass + copper + mass <= 3 kg", 4, api.ErrDouble},
		{"mass + copper + copper <= 3 kg", 4, api.ErrDouble},
		{"mass + 1001*mass <= 3 kg", 2, api.ErrRange},
		{"mass + 10000*mass <= 3 kg", 2, api.ErrSyntax},
		{"mass + load <= 3 W", 2, api.ErrKind},
		{"mass + copper - 2*width <= 3 kg", 4, api.ErrKind},
		{"mass + 1001*load <= 3 W", 2, api.ErrRange},
		{"mass + load ? 3 W", 2, api.ErrKind},
		{"mass <= 3 W", 3, api.ErrKind},
		{"idle <= 3 kg", 3, api.ErrKind},
		{"load - idle <= 3 mm", 5, api.ErrKind},
		{"height >= 3 W ; ?", 3, api.ErrKind},
		{"mass <= 3 kg ; mass + mass <= 3 kg", 7, api.ErrDouble},
		{"mass <= 3 kg ; idle <= 3 kg", 8, api.ErrKind},
		{six + "mass <= 1 kg", 30, api.ErrLarge},
		{six + "- mass <= 1 kg", 30, api.ErrLarge},
		{six + "-", 30, api.ErrLarge},
		{six + "- ?", 30, api.ErrLarge},
		{six + "1000*mass ?", 30, api.ErrLarge},
		{six + "1001*mass", 30, api.ErrRange},
		{six + "+", 30, api.ErrSyntax},
		{six + "?", 30, api.ErrSyntax},
		{six, 30, api.ErrSyntax},
		{strings.TrimSuffix(six, " "), 30, api.ErrSyntax},
	})
	if x := spec(t, strings.TrimSuffix(six, " ; ")); len(x.Requirements) != 6 {
		t.Error(x)
	}
}

// P2.1: strings of the greatest length, and longer ones.
func TestParseSpecLength(t *testing.T) {
	for _, c := range []string{" ", "m", ";", "9", "\xff"} {
		checkBadStrings(t, []badString{
			{strings.Repeat(c, api.MaxString), 0, api.ErrSyntax},
			{strings.Repeat(c, api.MaxString+1), 0, api.ErrLarge},
		})
	}
	checkBadStrings(t, []badString{
		{"mass <= 3 kg " + strings.Repeat("x", api.MaxString-13), 4, api.ErrSyntax},
		{"mass <= 3 kg " + strings.Repeat("x", api.MaxString-12), 0, api.ErrLarge},
	})
}

// P2.1: the errors of specifications, with the index of the requirement.
func TestCheckSpec(t *testing.T) {
	for _, b := range badSpecs() {
		if i, e := design.CheckSpec(b.spec); e != b.want || i != b.index {
			t.Error(b, i, e)
		}
	}
	edges := requirement(api.DesignMillimetres, -api.MaxDesignLimit, api.DesignTerm{Factor: 1000, Quantity: 5}, api.DesignTerm{Factor: -1000, Quantity: 4})
	var x api.DesignSpec
	for range api.MaxDesignRequirements {
		x.Requirements = append(x.Requirements, edges)
		if i, e := design.CheckSpec(x); e != api.OK || i != 0 {
			t.Error(x, i, e)
		}
	}
	x.Requirements[0].Limit = api.MaxDesignLimit
	if i, e := design.CheckSpec(x); e != api.OK || i != 0 {
		t.Error(x, i, e)
	}
}

// P2.16: ParseSpec reverses FormatSpec.
func TestParseSpecReverses(t *testing.T) {
	r := numbers(1)
	for range 2000 {
		x := randomSpec(&r)
		for i := range x.Requirements {
			q := &x.Requirements[i]
			q.Limit *= []int{1, 1000, 20000000}[r.below(3)]
			q.Terms[0].Factor *= []int{1, 50, 333}[r.below(3)]
		}
		if _, e := design.CheckSpec(x); e != api.OK {
			t.Fatal(x, e)
		}
		s := design.FormatSpec(x)
		if y, i, e := design.ParseSpec(s); e != api.OK || i != 0 || !reflect.DeepEqual(x, y) {
			t.Errorf("%q: %v %v %v", s, y, i, e)
		}
	}
}

// P2.1 and P2.16: what ParseSpec returns is valid, and has the string.
func TestFormatSpecReverses(t *testing.T) {
	words := []string{"mass", "copper", "idle", "2*mass", "999*load", "1001*mass", "-", "+", "<=", ">=", "5", "-7", "kg", "W", ";", ""}
	r := numbers(2)
	read := 0
	for range 200000 {
		var l []string
		for range 4 + 5*r.below(2) {
			l = append(l, words[r.below(len(words))])
		}
		if r.below(2) == 0 {
			l[len(l)-3], l[len(l)-2], l[len(l)-1] = "<=", strconv.Itoa(r.below(20)), []string{"kg", "W"}[r.below(2)]
		}
		s := strings.Join(l, " ")
		x, i, e := design.ParseSpec(s)
		if e != api.OK {
			if i < 0 || i > len(l) {
				t.Errorf("%q: %v %v", s, i, e)
			}
			continue
		}
		read++
		if _, e := design.CheckSpec(x); e != api.OK || design.FormatSpec(x) != s {
			t.Errorf("%q: %v %v", s, x, e)
		}
	}
	if read < 100 {
		t.Error(read)
	}
}
