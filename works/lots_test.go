package works_test

import (
	"fmt"
	"slices"
	"testing"

	"buchholz/api"
	"buchholz/works"
)

type badLot struct {
	name   string
	change func(*api.WorksLot)
	want   api.Errno
}

// badAlone returns how a lot is made one that is wrong, whatever lots stand before it.
func badAlone() []badLot {
	seven := []string{"a", "b", "c", "d", "e", "f", "g"}
	l := []badLot{
		{"a wrong name, seven made", func(x *api.WorksLot) { x.Name, x.Made = "", seven }, api.ErrName},
		{"a wrong name, a wrong range", func(x *api.WorksLot) { x.Name, x.Measured = "-", span(1, 0) }, api.ErrName},
		{"a very long name", func(x *api.WorksLot) { x.Name = string(make([]byte, 100000)) }, api.ErrName},
		{"seven", func(x *api.WorksLot) { x.Made = seven }, api.ErrLarge},
		{"seven wrong ones", func(x *api.WorksLot) { x.Made = make([]string, 7) }, api.ErrLarge},
		{"very many", func(x *api.WorksLot) { x.Made = make([]string, 1000000) }, api.ErrLarge},
		{"seven, a wrong range", func(x *api.WorksLot) { x.Made, x.Limits = seven, span(1, 0) }, api.ErrLarge},
		{"a double one", func(x *api.WorksLot) { x.Made = []string{"b", "wire", "b"} }, api.ErrDouble},
		{"a double one, then a wrong one", func(x *api.WorksLot) { x.Made = []string{"b", "b", ""} }, api.ErrDouble},
		{"a wrong one, then a double one", func(x *api.WorksLot) { x.Made = []string{"b", "", "b"} }, api.ErrName},
		{"two wrong ones that are the same", func(x *api.WorksLot) { x.Made = []string{"1", "1"} }, api.ErrName},
		{"the last one of six is double", func(x *api.WorksLot) { x.Made = []string{"a", "b", "c", "d", "e", "a"} }, api.ErrDouble},
		{"a double one, a wrong range", func(x *api.WorksLot) { x.Made, x.Measured = []string{"b", "b"}, span(0, 1000001) }, api.ErrDouble},
		{"a wrong one, a wrong range", func(x *api.WorksLot) { x.Made, x.Measured = []string{"1"}, span(0, 1000001) }, api.ErrName},
		{"the order of the measured ones", func(x *api.WorksLot) { x.Measured = span(1, 0) }, api.ErrOrder},
		{"the order of the limits", func(x *api.WorksLot) { x.Limits = span(1000000, -1000000) }, api.ErrOrder},
		{"the order, then wrong limits", func(x *api.WorksLot) { x.Measured, x.Limits = span(1, 0), span(0, 1000001) }, api.ErrOrder},
		{"wrong ones, then the order of the limits", func(x *api.WorksLot) { x.Measured, x.Limits = span(0, 1000001), span(1, 0) }, api.ErrRange},
		{"a wrong order of wrong ones", func(x *api.WorksLot) { x.Measured = span(1000001, 0) }, api.ErrRange},
		{"a wrong order of wrong limits", func(x *api.WorksLot) { x.Limits = span(0, -1000001) }, api.ErrRange},
	}
	for _, name := range badNames {
		l = append(l,
			badLot{fmt.Sprintf("the name %q", name), func(x *api.WorksLot) { x.Name = name }, api.ErrName},
			badLot{fmt.Sprintf("made from %q", name), func(x *api.WorksLot) { x.Made = []string{"wire", name} }, api.ErrName},
		)
	}
	for _, n := range []int{-1000001, 1000001, least, greatest} {
		l = append(l,
			badLot{fmt.Sprint("from ", n), func(x *api.WorksLot) { x.Measured.Lo = n }, api.ErrRange},
			badLot{fmt.Sprint("to ", n), func(x *api.WorksLot) { x.Measured.Hi = n }, api.ErrRange},
			badLot{fmt.Sprint("limits from ", n), func(x *api.WorksLot) { x.Limits.Lo = n }, api.ErrRange},
			badLot{fmt.Sprint("limits to ", n), func(x *api.WorksLot) { x.Limits.Hi = n }, api.ErrRange},
		)
	}
	return l
}

type badList struct {
	name  string
	lots  []api.WorksLot
	index int
	want  api.Errno
}

// plain returns a lot that is accepted.
func plain(name string, made ...string) api.WorksLot {
	return lot(name, span(0, 0), span(0, 0), made...)
}

// badLots returns lots that are not valid.
func badLots() []badList {
	wrong := plain("1")
	l := []badList{
		{"21 lots", numbered(21), 0, api.ErrLarge},
		{"21 wrong lots", make([]api.WorksLot, 21), 0, api.ErrLarge},
		{"very many lots", make([]api.WorksLot, 100000), 0, api.ErrLarge},
		{"the last one of 20", append(numbered(19), wrong), 19, api.ErrName},
		{"the first one of 20", append([]api.WorksLot{wrong}, numbered(19)...), 0, api.ErrName},
		{"the same name", []api.WorksLot{plain("a"), plain("b"), plain("a")}, 2, api.ErrExists},
		{"the same name, made from one that is missing", []api.WorksLot{plain("a"), plain("a", "b")}, 1, api.ErrExists},
		{"the same name of a lot that is wrong", []api.WorksLot{plain("a"), lot("a", span(1, 0), span(0, 0))}, 1, api.ErrOrder},
		{"from a lot that is missing", []api.WorksLot{plain("a"), plain("b", "a", "c")}, 1, api.ErrMissing},
		{"from a later lot", []api.WorksLot{plain("a"), plain("b", "c"), plain("c")}, 1, api.ErrMissing},
		{"from itself", []api.WorksLot{plain("a"), plain("b", "b")}, 1, api.ErrMissing},
		{"from one that is missing, and wrong", []api.WorksLot{plain("a"), lot("b", span(1, 0), span(0, 0), "c")}, 1, api.ErrOrder},
		{"from one that is missing, then a wrong lot", []api.WorksLot{plain("a", "b"), wrong}, 0, api.ErrMissing},
		{"the same name, then a wrong lot", []api.WorksLot{plain("a"), plain("a"), wrong}, 1, api.ErrExists},
		{"other letters", []api.WorksLot{plain("a"), plain("b", "A")}, 1, api.ErrMissing},
	}
	for _, x := range badAlone() {
		for i := range 3 {
			lots := fifth()
			x.change(&lots[i])
			if lots[i].Name == fifth()[i].Name || x.want == api.ErrName {
				l = append(l, badList{fmt.Sprint(x.name, " ", i), lots, i, x.want})
			}
		}
	}
	return l
}

// numbered returns so many valid lots.
func numbered(n int) []api.WorksLot {
	var l []api.WorksLot
	for i := range n {
		l = append(l, plain(fmt.Sprint("lot-", i)))
	}
	return l
}

// refuseLots checks a function with all lots that are not valid: it returns whether the result is a zero value, and the error.
func refuseLots(t *testing.T, name string, call func([]api.WorksLot) (bool, api.Errno)) {
	t.Helper()
	for _, x := range badLots() {
		if zero, e := call(x.lots); !zero || e != x.want {
			t.Error(name, x.name, zero, e, x.want)
		}
	}
}

// P7.6: lots, up to the limits.
func TestCheckLots(t *testing.T) {
	chain := numbered(20)
	for i := range chain {
		for _, before := range chain[max(0, i-6):i] {
			chain[i].Made = append(chain[i].Made, before.Name)
		}
	}
	var named []api.WorksLot
	for _, name := range goodNames {
		named = append(named, lot(name, span(-1000000, 1000000), span(-1000000, 1000000)))
	}
	for _, l := range [][]api.WorksLot{nil, {}, fifth(), numbered(20), chain, named, {plain("a"), plain("A", "a")}} {
		if i, e := works.CheckLots(l); i != 0 || e != api.OK {
			t.Error(l, i, e)
		}
	}
	for _, x := range badLots() {
		if i, e := works.CheckLots(x.lots); i != x.index || e != x.want {
			t.Error(x.name, i, e, x.index, x.want)
		}
	}
}

// P7.6: whether a lot is accepted.
func TestAcceptOf(t *testing.T) {
	for _, x := range []struct {
		measured, limits api.Range
		want             int
	}{
		{span(5, 6), span(0, 10), api.AnswerYes},
		{span(20, 22), span(21, 30), api.AnswerMaybe},
		{span(21, 30), span(21, 30), api.AnswerYes},
		{span(20, 31), span(21, 30), api.AnswerMaybe},
		{span(20, 30), span(21, 30), api.AnswerMaybe},
		{span(21, 31), span(21, 30), api.AnswerMaybe},
		{span(20, 21), span(21, 30), api.AnswerMaybe},
		{span(30, 31), span(21, 30), api.AnswerMaybe},
		{span(20, 20), span(21, 30), api.AnswerNo},
		{span(31, 31), span(21, 30), api.AnswerNo},
		{span(-40, 20), span(21, 30), api.AnswerNo},
		{span(31, 1000000), span(21, 30), api.AnswerNo},
		{span(7, 7), span(7, 7), api.AnswerYes},
		{span(7, 8), span(7, 7), api.AnswerMaybe},
		{span(8, 8), span(7, 7), api.AnswerNo},
		{span(-1000000, 1000000), span(-1000000, 1000000), api.AnswerYes}, // limits may be wide
		{span(-1000000, 1000000), span(0, 0), api.AnswerMaybe},
	} {
		if a, e := works.AcceptOf(lot("a", x.measured, x.limits, "missing")); a != x.want || e != api.OK {
			t.Error(x, a, e)
		}
	}
	for _, x := range badAlone() {
		bad := lot("a", span(5, 6), span(0, 10))
		x.change(&bad)
		if a, e := works.AcceptOf(bad); a != 0 || e != x.want {
			t.Error(x.name, a, e, x.want)
		}
	}
}

// P7.6: all small ranges, number by number.
func TestAcceptOfMany(t *testing.T) {
	r := numbers(13)
	for range 5000 {
		measured, limits := r.between(-9, 9), r.between(-9, 9)
		in := 0
		for n := measured.Lo; n <= measured.Hi; n++ {
			if n >= limits.Lo && n <= limits.Hi {
				in++
			}
		}
		want := api.AnswerMaybe
		if in == 0 {
			want = api.AnswerNo
		} else if in == measured.Hi-measured.Lo+1 {
			want = api.AnswerYes
		}
		if a, e := works.AcceptOf(lot("a", measured, limits)); a != want || e != api.OK {
			t.Fatal(measured, limits, a, e, want)
		}
	}
}

// P7.6: ingredients, products and suspects, in the order of the slice.
func TestTraces(t *testing.T) {
	good, bad, open := span(0, 0), span(9, 9), span(0, 9)
	limits := span(0, 5)
	chain := []api.WorksLot{
		lot("a", good, limits), lot("b", bad, limits), lot("c", good, limits, "b", "a"),
		lot("d", open, limits, "a"), lot("e", good, limits, "d"), lot("f", good, limits, "e", "c"), lot("g", good, limits, "a"),
	}
	for _, x := range []struct {
		lots                  []api.WorksLot
		name                  string
		ingredients, products []string
	}{
		{fifth(), "wire", nil, []string{"coil", "unit"}},
		{fifth(), "coil", []string{"wire"}, []string{"unit"}},
		{fifth(), "unit", []string{"wire", "coil"}, nil},
		{chain, "a", nil, []string{"c", "d", "e", "f", "g"}},
		{chain, "b", nil, []string{"c", "f"}},
		{chain, "c", []string{"a", "b"}, []string{"f"}},
		{chain, "d", []string{"a"}, []string{"e", "f"}},
		{chain, "e", []string{"a", "d"}, []string{"f"}},
		{chain, "f", []string{"a", "b", "c", "d", "e"}, nil},
		{chain, "g", []string{"a"}, nil},
	} {
		if l, e := works.IngredientsOf(x.lots, x.name); e != api.OK || !slices.Equal(l, x.ingredients) {
			t.Error(x.name, l, e)
		}
		if l, e := works.ProductsOf(x.lots, x.name); e != api.OK || !slices.Equal(l, x.products) {
			t.Error(x.name, l, e)
		}
	}
	for _, x := range []struct {
		lots []api.WorksLot
		want []string
	}{
		{nil, nil},
		{numbered(20), nil},
		{fifth(), []string{"coil", "unit"}},
		{chain, []string{"b", "c", "d", "e", "f"}},
		{chain[:1], nil},
		{chain[1:2], []string{"b"}},
	} {
		if l, e := works.SuspectsIn(x.lots); e != api.OK || !slices.Equal(l, x.want) {
			t.Error(x, l, e)
		}
	}
}

// P7.6: the errors of the lots, then those of the name.
func TestTraceErrors(t *testing.T) {
	for _, name := range []string{"wire", "other", ""} {
		refuseLots(t, "IngredientsOf", func(l []api.WorksLot) (bool, api.Errno) {
			names, e := works.IngredientsOf(l, name)
			return len(names) == 0, e
		})
		refuseLots(t, "ProductsOf", func(l []api.WorksLot) (bool, api.Errno) {
			names, e := works.ProductsOf(l, name)
			return len(names) == 0, e
		})
	}
	refuseLots(t, "SuspectsIn", func(l []api.WorksLot) (bool, api.Errno) {
		names, e := works.SuspectsIn(l)
		return len(names) == 0, e
	})
	asked := map[string]api.Errno{"other": api.ErrMissing, "Wire": api.ErrMissing, "wir": api.ErrMissing, "wire-": api.ErrMissing}
	for _, name := range badNames {
		asked[name] = api.ErrName
	}
	for name, want := range asked {
		for _, lots := range [][]api.WorksLot{nil, fifth()} {
			if l, e := works.IngredientsOf(lots, name); len(l) != 0 || e != want {
				t.Errorf("%q: %v %v", name, l, e)
			}
			if l, e := works.ProductsOf(lots, name); len(l) != 0 || e != want {
				t.Errorf("%q: %v %v", name, l, e)
			}
		}
	}
}

// isIngredient returns whether a lot is an ingredient of another one.
func isIngredient(lots []api.WorksLot, name, of string) bool {
	for _, x := range lots {
		if x.Name != of {
			continue
		}
		for _, made := range x.Made {
			if made == name || isIngredient(lots, name, made) {
				return true
			}
		}
	}
	return false
}

// P7.6, P7.13: ingredients and products are the same relation, and both follow the lots that are made from lots; suspects are what is not surely accepted, and its products.
func TestBothWays(t *testing.T) {
	r := numbers(14)
	suspect, good := 0, 0
	for range 1000 {
		lots := randomLots(&r)
		if i, e := works.CheckLots(lots); i != 0 || e != api.OK {
			t.Fatal(lots, i, e)
		}
		suspects, e := works.SuspectsIn(lots)
		isOK(t, e)
		var want []string
		for _, x := range lots {
			ingredients, e := works.IngredientsOf(lots, x.Name)
			products, f := works.ProductsOf(lots, x.Name)
			var made, makes []string
			isSuspect := x.Measured.Lo < x.Limits.Lo || x.Measured.Hi > x.Limits.Hi
			for _, y := range lots {
				if isIngredient(lots, y.Name, x.Name) {
					made = append(made, y.Name)
					isSuspect = isSuspect || y.Measured.Lo < y.Limits.Lo || y.Measured.Hi > y.Limits.Hi
				}
				if isIngredient(lots, x.Name, y.Name) {
					makes = append(makes, y.Name)
				}
			}
			if e != api.OK || f != api.OK || !slices.Equal(ingredients, made) || !slices.Equal(products, makes) {
				t.Fatal(lots, x.Name, ingredients, products, e, f)
			}
			if isSuspect {
				want = append(want, x.Name)
			}
			for _, product := range products {
				back, e := works.IngredientsOf(lots, product)
				if e != api.OK || !slices.Contains(back, x.Name) || slices.Contains(suspects, x.Name) && !slices.Contains(suspects, product) {
					t.Fatal(lots, x.Name, product, back, suspects, e)
				}
			}
		}
		if !slices.Equal(suspects, want) {
			t.Fatal(lots, suspects, want)
		}
		suspect += len(suspects)
		good += len(lots) - len(suspects)
	}
	if suspect < 1000 || good < 500 {
		t.Error(suspect, good)
	}
}
