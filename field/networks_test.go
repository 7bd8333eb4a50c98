package field_test

import (
	"reflect"
	"testing"

	"buchholz/api"
	"buchholz/field"
)

// P3.1: networks at their limits.
func TestCheckNet(t *testing.T) {
	seven := []api.FieldBranch{
		branch(0, 1, 1, 50), branch(1, 0, 20, -50), branch(0, 4, 1, 0), branch(4, 0, 1, 0),
		branch(3, 2, 7, 1), branch(0, 1, 1, 50), branch(2, 4, 20, 50),
	}
	for _, n := range []api.FieldNet{
		{Nodes: 1},
		{Nodes: 1, Branches: []api.FieldBranch{}},
		{Nodes: 5},
		{Nodes: 2, Branches: []api.FieldBranch{branch(1, 0, 20, -50)}},
		{Nodes: 5, Branches: seven},
	} {
		if i, e := field.CheckNet(n); i != 0 || e != api.OK {
			t.Error(n, i, e)
		}
	}
	for _, x := range badNets() {
		if i, e := field.CheckNet(x.net); i != x.index || e != x.want {
			t.Error(x, i, e)
		}
	}
}

// P3.1: the nodes of all parts.
func TestPartsOf(t *testing.T) {
	for s, want := range map[string][][]int{
		"1":                                 {{0}},
		"3":                                 {{0}, {1}, {2}},
		"2,1 0 1 0":                         {{0, 1}},
		"2,1 0 1 0,1 0 1 0":                 {{0, 1}},
		"4,3 1 1 0":                         {{0}, {1, 3}, {2}},
		"5,4 0 1 0,3 1 1 0":                 {{0, 4}, {1, 3}, {2}},
		"5,3 4 1 0,4 2 1 0,2 1 1 0":         {{0}, {1, 2, 3, 4}},
		"5,3 4 1 0,1 2 1 0,4 1 1 0":         {{0}, {1, 2, 3, 4}},
		"5,4 3 1 0,3 2 1 0,2 1 1 0,1 0 1 0": {{0, 1, 2, 3, 4}},
		"5,0 1 1 0,2 3 1 0,3 1 1 0":         {{0, 1, 2, 3}, {4}},
	} {
		if l, e := field.PartsOf(net(t, s)); e != api.OK || !reflect.DeepEqual(l, want) {
			t.Error(s, l, e)
		}
	}
	refuse(t, "PartsOf", func(n api.FieldNet) (bool, api.Errno) {
		l, e := field.PartsOf(n)
		return l == nil, e
	})
}

// P3.1: parts are what can be reached.
func TestPartsAreReached(t *testing.T) {
	r := numbers(1)
	for range 500 {
		n := randomNet(&r, 3)
		var want [][]int
		for i := range n.Nodes {
			if !isLowest(n, i) {
				continue
			}
			var part []int
			for j, is := range reached(n, i) {
				if is {
					part = append(part, j)
				}
			}
			want = append(want, part)
		}
		if l, e := field.PartsOf(n); e != api.OK || !reflect.DeepEqual(l, want) {
			t.Fatal(n, l, want, e)
		}
	}
}

// P3.8: the string of a network, whatever it is.
func TestFormatNet(t *testing.T) {
	for _, x := range []struct {
		n    api.FieldNet
		want string
	}{
		{api.FieldNet{}, "0"},
		{api.FieldNet{Nodes: 5}, "5"},
		{api.FieldNet{Nodes: 2, Branches: []api.FieldBranch{branch(0, 1, 3, 10), branch(1, 0, 2, 0)}}, "2,0 1 3 10,1 0 2 0"},
		{api.FieldNet{Nodes: least, Branches: []api.FieldBranch{branch(least, greatest, -7, -1)}}, "-9223372036854775808,-9223372036854775808 9223372036854775807 -7 -1"},
		{api.FieldNet{Nodes: 1, Branches: make([]api.FieldBranch, 8)}, "1,0 0 0 0,0 0 0 0,0 0 0 0,0 0 0 0,0 0 0 0,0 0 0 0,0 0 0 0,0 0 0 0"},
	} {
		if s := field.FormatNet(x.n); s != x.want {
			t.Error(x, s)
		}
	}
}

// P3.8: strings with a network.
func TestParseNet(t *testing.T) {
	for s, want := range map[string]api.FieldNet{
		"1":                  {Nodes: 1},
		"2,0 1 3 10,1 0 2 0": {Nodes: 2, Branches: []api.FieldBranch{branch(0, 1, 3, 10), branch(1, 0, 2, 0)}},
		"5,4 0 20 -50":       {Nodes: 5, Branches: []api.FieldBranch{branch(4, 0, 20, -50)}},
	} {
		if n, e := field.ParseNet(s); e != api.OK || !reflect.DeepEqual(n, want) {
			t.Errorf("%q: %v %v", s, n, e)
		}
	}
}

// P3.8: strings that are not those of a network.
func TestParseNetErrors(t *testing.T) {
	for s, want := range map[string]api.Errno{
		"":                        api.ErrSyntax,
		" ":                       api.ErrSyntax,
		",":                       api.ErrSyntax,
		"2,":                      api.ErrSyntax,
		"2, ":                     api.ErrSyntax,
		",0 1 1 0":                api.ErrSyntax,
		" 2":                      api.ErrSyntax,
		"2 ":                      api.ErrSyntax,
		"2\n":                     api.ErrSyntax,
		"2 0":                     api.ErrSyntax,
		"x":                       api.ErrSyntax,
		"2;0 1 1 0":               api.ErrSyntax,
		"2, 0 1 1 0":              api.ErrSyntax,
		"2,0 1 1 0 ":              api.ErrSyntax,
		"2,0 1 1 0,":              api.ErrSyntax,
		"2,,0 1 1 0":              api.ErrSyntax,
		"2,0 1 1":                 api.ErrSyntax,
		"2,0 1 1 0 0":             api.ErrSyntax,
		"2,0 1  1 0":              api.ErrSyntax,
		"2,0 1 1 ":                api.ErrSyntax,
		"2,0\t1 1 0":              api.ErrSyntax,
		"2,0 1 1 0,0 1 1":         api.ErrSyntax,
		"2,a 1 1 0":               api.ErrSyntax,
		"2,0 a 1 0":               api.ErrSyntax,
		"2,0 1 a 0":               api.ErrSyntax,
		"2,0 1 1 a":               api.ErrSyntax,
		"2,0 1 1 1a":              api.ErrSyntax,
		"2,0 1 1 /":               api.ErrSyntax,
		"2,0 1 1 :":               api.ErrSyntax,
		"02":                      api.ErrSyntax,
		"+2":                      api.ErrSyntax,
		"-":                       api.ErrSyntax,
		"-0":                      api.ErrSyntax,
		"00":                      api.ErrSyntax,
		"2,0 1 1 -0":              api.ErrSyntax,
		"2,0 1 1 -01":             api.ErrSyntax,
		"2,0 1 1 --1":             api.ErrSyntax,
		"2,0 1 1 -":               api.ErrSyntax,
		"2,0 1 1 1-":              api.ErrSyntax,
		"2,0 1 1 00":              api.ErrSyntax,
		"2,0 1 1 +1":              api.ErrSyntax,
		"2,0 1 01 0":              api.ErrSyntax,
		"2,0 1 1 10000":           api.ErrSyntax,
		"2,0 1 1 -10000":          api.ErrSyntax,
		"10000":                   api.ErrSyntax,
		"99999999999999999999":    api.ErrSyntax,
		"2,0 1 1 \xd9\xa1":        api.ErrSyntax,
		"9,0 1 1":                 api.ErrSyntax,
		"0":                       api.ErrRange,
		"-1":                      api.ErrRange,
		"6":                       api.ErrRange,
		"9999":                    api.ErrRange,
		"-9999":                   api.ErrRange,
		"2,0 2 1 0":               api.ErrMissing,
		"2,-1 0 1 0":              api.ErrMissing,
		"2,1 1 1 0":               api.ErrForm,
		"2,0 1 0 0":               api.ErrRange,
		"2,0 1 -5 0":              api.ErrRange,
		"2,0 1 1 51":              api.ErrRange,
		"2,0 1 1 -9999":           api.ErrRange,
		"2,0 1 1 0,0 1 21 0":      api.ErrRange,
		"2,0 0 1 0,0 2 1 0,0 9 9": api.ErrSyntax,
	} {
		if n, e := field.ParseNet(s); e != want || !reflect.DeepEqual(n, api.FieldNet{}) {
			t.Errorf("%q: %v %v", s, n, e)
		}
	}
}

// P3.8: how long a string may be, and that too many branches are found after them.
func TestParseNetLength(t *testing.T) {
	repeated := func(part string, count int) string {
		s := "5"
		for range count {
			s += part
		}
		return s
	}
	long := repeated(",0 0 0 0", api.MaxString/8)
	for _, x := range []struct {
		s    string
		want api.Errno
	}{
		{repeated(",0 1 1 0", 7), api.OK},
		{repeated(",0 1 1 0", 8), api.ErrLarge},
		{repeated(",0 0 0 0", 8), api.ErrLarge},
		{repeated(",0 1 1 0", 8) + ",", api.ErrSyntax},
		{"6" + repeated(",0 1 1 0", 8)[1:], api.ErrRange},
		{long[:api.MaxString], api.ErrSyntax},
		{long[:api.MaxString] + "?", api.ErrLarge},
	} {
		if _, e := field.ParseNet(x.s); e != x.want {
			t.Errorf("%d bytes: %v", len(x.s), e)
		}
	}
}

// P3.15: ParseNet reverses FormatNet of valid networks.
func TestParseReversesFormat(t *testing.T) {
	r := numbers(2)
	for range 1000 {
		n := randomNet(&r, 20)
		if again, e := field.ParseNet(field.FormatNet(n)); e != api.OK || !reflect.DeepEqual(again, n) {
			t.Fatal(n, again, e)
		}
	}
}
