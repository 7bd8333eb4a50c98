package design_test

import (
	"slices"
	"testing"

	"buchholz/api"
	"buchholz/design"
)

// P2.3: the margins and answers of the chapter's examples and edge cases.
func TestMarginsOf(t *testing.T) {
	k := exampleStock()
	for _, x := range []struct {
		s      string
		choice []int
		want   []api.Range
		answer int
	}{
		{"mass <= 18 kg ; idle + load <= 40 W", []int{0, 0}, []api.Range{{Lo: 0, Hi: 2}, {Lo: 12, Hi: 15}}, api.AnswerYes},
		{"mass <= 18 kg ; idle + load <= 40 W", []int{1, 0}, []api.Range{{Lo: -3, Hi: -2}, {Lo: 9, Hi: 12}}, api.AnswerNo},
		{"mass <= 18 kg ; idle + load <= 40 W", []int{0, 1}, []api.Range{{Lo: 2, Hi: 4}, {Lo: 1, Hi: 5}}, api.AnswerYes},
		{"mass <= 18 kg ; idle + load <= 40 W", []int{1, 1}, []api.Range{{Lo: -1, Hi: 0}, {Lo: -2, Hi: 2}}, api.AnswerMaybe},
		{"mass <= 18 kg ; mass >= 19 kg", []int{1, 1}, []api.Range{{Lo: -1, Hi: 0}, {Lo: -1, Hi: 0}}, api.AnswerMaybe},
		{"mass <= 18 kg ; mass >= 20 kg", []int{1, 1}, []api.Range{{Lo: -1, Hi: 0}, {Lo: -2, Hi: -1}}, api.AnswerNo},
		{"2*mass - copper >= 30 kg", []int{0, 0}, []api.Range{{Lo: -4, Hi: 0}}, api.AnswerMaybe},
		{"2*mass - copper >= 26 kg", []int{0, 0}, []api.Range{{Lo: 0, Hi: 4}}, api.AnswerYes},
		{"- load + 1000*idle <= 0 W", []int{0, 0}, []api.Range{{Lo: -5980, Hi: -4978}}, api.AnswerNo},
		{"- load + 4*idle <= 0 W", []int{0, 1}, []api.Range{{Lo: 6, Hi: 13}}, api.AnswerYes},
		{"- load + 6*idle <= 2 W", []int{0, 1}, []api.Range{{Lo: -4, Hi: 5}}, api.AnswerMaybe},
		{"mass <= -5 kg", []int{0, 1}, []api.Range{{Lo: -21, Hi: -19}}, api.AnswerNo},
		{"height <= 0 mm ; width >= 0 mm", []int{0, 0}, []api.Range{{}, {}}, api.AnswerYes},
		{"height >= -1000000000 mm ; - height <= 1000000000 mm", []int{0, 0}, []api.Range{{Lo: 1000000000, Hi: 1000000000}, {Lo: 1000000000, Hi: 1000000000}}, api.AnswerYes},
	} {
		l, e := design.MarginsOf(spec(t, x.s), k, x.choice)
		if e != api.OK || !slices.Equal(l, x.want) {
			t.Error(x, l, e)
		}
		if n, e := design.Meets(spec(t, x.s), k, x.choice); e != api.OK || n != x.answer {
			t.Error(x, n, e)
		}
	}
}

// P2.3 and P2.9: margins are exactly the ends over all values; all of these hold with AnswerYes, none with AnswerNo.
func TestForEveryMaterial(t *testing.T) {
	r := numbers(5)
	var answers [3]int
	for range 1000 {
		k, x := randomStock(&r), randomSpec(&r)
		for _, choice := range allChoices(k) {
			l, e := design.MarginsOf(x, k, choice)
			if e != api.OK || len(l) != len(x.Requirements) {
				t.Fatal(l, e)
			}
			never, always := false, true
			for i, q := range x.Requirements {
				margins := marginsByEnds(q, k, choice)
				if l[i].Lo != slices.Min(margins) || l[i].Hi != slices.Max(margins) {
					t.Error(design.FormatSpec(x), k, choice, i, l[i])
				}
				never = never || slices.Max(margins) < 0
				always = always && slices.Min(margins) >= 0
			}
			n, e := design.Meets(x, k, choice)
			if e != api.OK || always != (n == api.AnswerYes) || never != (n == api.AnswerNo) {
				t.Error(design.FormatSpec(x), k, choice, n, e)
			}
			answers[n]++
		}
	}
	for _, n := range answers {
		if n < 100 {
			t.Error(answers)
		}
	}
}

// cheapestBySearch returns the cheapest design among all choices.
func cheapestBySearch(x api.DesignSpec, k api.DesignStock) ([]int, bool) {
	var kept [][]int
	for _, choice := range allChoices(k) {
		if !slices.ContainsFunc(x.Requirements, func(q api.DesignRequirement) bool { return !keepsBySearch(q, k, choice) }) {
			kept = append(kept, choice)
		}
	}
	slices.SortStableFunc(kept, func(a, b []int) int { return costBySum(k, a) - costBySum(k, b) })
	if len(kept) == 0 {
		return nil, false
	}
	return kept[0], true
}

// contradictingBySearch returns the minimum set of requirements that contradict the stock, of all sets.
func contradictingBySearch(x api.DesignSpec, k api.DesignStock) ([]int, bool) {
	var sets [][]int
	for bits := range 1 << len(x.Requirements) {
		var set []int
		var part api.DesignSpec
		for i, q := range x.Requirements {
			if bits>>i&1 == 1 {
				set = append(set, i)
				part.Requirements = append(part.Requirements, q)
			}
		}
		if _, is := cheapestBySearch(part, k); !is {
			sets = append(sets, set)
		}
	}
	if len(sets) == 0 {
		return nil, false
	}
	return slices.MinFunc(sets, func(a, b []int) int {
		if len(a) != len(b) {
			return len(a) - len(b)
		}
		return slices.Compare(a, b)
	}), true
}

// P2.4: the examples of the cheapest design, and of contradictions.
func TestCheapest(t *testing.T) {
	for _, x := range []struct {
		s    string
		want []int
		cost int
		e    api.Errno
	}{
		{"mass <= 18 kg ; idle + load <= 40 W", []int{0, 1}, 175, api.OK},
		{"mass <= 18 kg ; mass <= 18 kg", []int{0, 1}, 175, api.OK},
		{"mass <= 19 kg", []int{1, 1}, 151, api.OK},
		{"mass <= 16 kg ; load <= 22 W", nil, 0, api.ErrNone},
		{"mass <= -5 kg", nil, 0, api.ErrNone},
		{"mass >= 20 kg", []int{1, 0}, 160, api.OK},
	} {
		l, n, e := design.Cheapest(spec(t, x.s), exampleStock())
		if e != x.e || n != x.cost || !slices.Equal(l, x.want) {
			t.Error(x, l, n, e)
		}
	}
}

// P2.4: of several choices with the minimum cost the lexicographically first one.
func TestCheapestOfEqual(t *testing.T) {
	same := []api.DesignPart{{Name: "a", Price: 5}, {Name: "b", Price: 4}, {Name: "c", Price: 4}}
	k := api.DesignStock{Slots: [][]api.DesignPart{same, same[:1], same}}
	if l, n, e := design.Cheapest(spec(t, "mass <= 0 kg"), k); e != api.OK || n != 13 || !slices.Equal(l, []int{1, 0, 1}) {
		t.Error(l, n, e)
	}
}

func TestContradicting(t *testing.T) {
	for _, x := range []struct {
		s    string
		want []int
		e    api.Errno
	}{
		{"mass <= 18 kg ; load <= 25 W ; copper <= 5 kg", []int{1, 2}, api.OK},
		{"copper <= 5 kg ; load <= 25 W ; mass <= 3 kg", []int{2}, api.OK},
		{"mass <= 4 kg ; copper <= 5 kg ; load <= 25 W ; mass <= 3 kg", []int{0}, api.OK},
		{"mass <= 18 kg ; idle <= 40 W ; mass >= 19 kg", []int{0, 2}, api.OK},
		{"mass >= 19 kg ; load <= 25 W ; copper <= 5 kg ; mass <= 18 kg", []int{0, 2}, api.OK},
		{"mass <= 18 kg ; load <= 25 W ; idle <= 6 W ; mass <= 17 kg", []int{1, 3}, api.OK},
		{"mass <= 18 kg ; mass >= 14 kg", nil, api.ErrNone},
		{"mass <= -5 kg", []int{0}, api.OK},
	} {
		l, e := design.Contradicting(spec(t, x.s), exampleStock())
		if e != x.e || !slices.Equal(l, x.want) {
			t.Error(x, l, e)
		}
	}
}

// P2.4: three requirements of which any two can be kept.
func TestContradictingThree(t *testing.T) {
	k := api.DesignStock{Slots: [][]api.DesignPart{{
		part(t, "a 0 1 1 0 0 0 0 0 0 0 0 0 0"), part(t, "b 0 0 0 0 0 1 1 0 0 0 0 0 0"), part(t, "c 0 0 0 0 0 0 0 0 0 1 1 0 0"),
	}}}
	x := spec(t, "width <= 0 mm ; mass <= 0 kg ; idle <= 0 W ; height <= 0 mm")
	if l, e := design.Contradicting(x, k); e != api.OK || !slices.Equal(l, []int{1, 2, 3}) {
		t.Error(l, e)
	}
}

// P2.4 and P2.12: random tasks are searched through. Cheapest has an error exactly if Contradicting has none, whose set is minimal.
func TestSearches(t *testing.T) {
	r := numbers(6)
	var sizes [5]int
	for range 3000 {
		k, x := randomStock(&r), randomSpec(&r)
		want, found := cheapestBySearch(x, k)
		l, n, e := design.Cheapest(x, k)
		if found != (e == api.OK) || !found && e != api.ErrNone || !slices.Equal(l, want) || n != costBySum(k, want) {
			t.Error(design.FormatSpec(x), k, l, n, e, want)
		}
		set, contradict := contradictingBySearch(x, k)
		l, e = design.Contradicting(x, k)
		if contradict != (e == api.OK) || !contradict && e != api.ErrNone || !slices.Equal(l, set) || contradict == found {
			t.Error(design.FormatSpec(x), k, l, e, set)
		}
		sizes[len(l)]++
		for i := range l {
			var others api.DesignSpec
			for j, index := range l {
				if i != j {
					others.Requirements = append(others.Requirements, x.Requirements[index])
				}
			}
			if len(l) > 1 {
				if _, _, e := design.Cheapest(others, k); e != api.OK {
					t.Error(design.FormatSpec(others), k, e)
				}
			}
		}
	}
	if sizes[0] < 100 || sizes[1] < 100 || sizes[2] < 100 {
		t.Error(sizes)
	}
}

// P2.3 to P2.5: the errors of specifications come before those of stocks, these before those of choices and prices.
func TestTaskErrors(t *testing.T) {
	k, x := exampleStock(), spec(t, "mass <= 19 kg")
	for _, b := range badSpecs() {
		checkTaskErrors(t, b.want, b.spec, k, []int{0, 0}, []int{0})
		checkTaskErrors(t, b.want, b.spec, api.DesignStock{IdlePrice: -1}, []int{9}, nil)
	}
	for _, b := range badStocks() {
		checkTaskErrors(t, b.want, x, b.stock, []int{0, 0}, []int{0})
		checkTaskErrors(t, b.want, x, b.stock, nil, nil)
	}
	for _, b := range badChoices() {
		if l, e := design.MarginsOf(x, k, b.choice); e != b.want || len(l) != 0 {
			t.Error(b, l, e)
		}
		if n, e := design.Meets(x, k, b.choice); e != b.want || n != 0 {
			t.Error(b, n, e)
		}
	}
}

// checkTaskErrors calls all functions of a specification and a stock.
func checkTaskErrors(t *testing.T, want api.Errno, x api.DesignSpec, k api.DesignStock, choice, prices []int) {
	t.Helper()
	if l, e := design.MarginsOf(x, k, choice); e != want || len(l) != 0 {
		t.Error(x, k, l, e)
	}
	if n, e := design.Meets(x, k, choice); e != want || n != 0 {
		t.Error(x, k, n, e)
	}
	if l, n, e := design.Cheapest(x, k); e != want || len(l) != 0 || n != 0 {
		t.Error(x, k, l, n, e)
	}
	if l, e := design.Contradicting(x, k); e != want || len(l) != 0 {
		t.Error(x, k, l, e)
	}
	if n, e := design.BoundOf(x, k, prices); e != want || n != 0 {
		t.Error(x, k, n, e)
	}
	if n, e := design.GapOf(x, k, api.DesignOffer{Choice: choice, Prices: prices}); e != want || n != 0 {
		t.Error(x, k, n, e)
	}
}
