package design_test

import (
	"slices"
	"strconv"
	"testing"

	"buchholz/api"
	"buchholz/design"
)

// P2.2: the errors of stocks, with the index of the slot.
func TestCheckStock(t *testing.T) {
	for _, b := range badStocks() {
		if i, e := design.CheckStock(b.stock); e != b.want || i != b.index {
			t.Error(b, i, e)
		}
	}
	if i, e := design.CheckStock(exampleStock()); e != api.OK || i != 0 {
		t.Error(i, e)
	}
}

// P2.2: the greatest stock, a part whose ranges are all 0, and names that occur in other slots.
func TestCheckStockLimits(t *testing.T) {
	k := api.DesignStock{IdlePrice: api.MaxDesignSize, Price: api.MaxDesignSize}
	for range api.MaxDesignSlots {
		var parts []api.DesignPart
		for i := range api.MaxDesignParts {
			p := api.DesignPart{Name: "AZaz-09bcde" + strconv.Itoa(i), Price: api.MaxDesignValue}
			p.Values[i] = api.Range{Lo: 0, Hi: api.MaxDesignValue}
			parts = append(parts, p)
		}
		k.Slots = append(k.Slots, parts)
	}
	k.Slots[0] = []api.DesignPart{{Name: "a"}}
	k.Slots[1][0] = api.DesignPart{Name: "Z", Values: [6]api.Range{{Lo: api.MaxDesignValue, Hi: api.MaxDesignValue}}}
	if i, e := design.CheckStock(k); e != api.OK || i != 0 {
		t.Error(i, e)
	}
	k.Slots[1][0].Values = [6]api.Range{2: {Lo: 1, Hi: api.MaxDesignValue}, 3: {Lo: 1, Hi: api.MaxDesignValue}}
	if n, e := design.CostOf(k, []int{0, 0, 0, 0, 0}); e != api.OK || n != 2*1000*1000000+3*1000000 {
		t.Error(n, e)
	}
}

// P2.2: the values and the costs of the chapter's choices.
func TestValuesOf(t *testing.T) {
	k := exampleStock()
	for _, x := range []struct {
		choice []int
		mass   api.Range
		copper api.Range
		idle   api.Range
		load   api.Range
		cost   int
	}{
		{[]int{0, 0}, api.Range{Lo: 16, Hi: 18}, api.Range{Lo: 6, Hi: 6}, api.Range{Lo: 5, Hi: 6}, api.Range{Lo: 20, Hi: 22}, 184},
		{[]int{0, 1}, api.Range{Lo: 14, Hi: 16}, api.Range{}, api.Range{Lo: 5, Hi: 6}, api.Range{Lo: 30, Hi: 33}, 175},
		{[]int{1, 0}, api.Range{Lo: 20, Hi: 21}, api.Range{Lo: 6, Hi: 6}, api.Range{Lo: 8, Hi: 9}, api.Range{Lo: 20, Hi: 22}, 160},
		{[]int{1, 1}, api.Range{Lo: 18, Hi: 19}, api.Range{}, api.Range{Lo: 8, Hi: 9}, api.Range{Lo: 30, Hi: 33}, 151},
	} {
		v, e := design.ValuesOf(k, x.choice)
		if e != api.OK || v != [6]api.Range{x.mass, x.copper, x.idle, x.load, {}, {}} {
			t.Error(x, v, e)
		}
		if n, e := design.CostOf(k, x.choice); e != api.OK || n != x.cost {
			t.Error(x, n, e)
		}
	}
}

// P2.2: values of all quantities, and costs, of random stocks.
func TestValuesAddUp(t *testing.T) {
	r := numbers(3)
	for range 200 {
		k := randomStock(&r)
		for _, choice := range allChoices(k) {
			v, e := design.ValuesOf(k, choice)
			if e != api.OK {
				t.Fatal(k, choice, e)
			}
			for q := range v {
				var lo, hi int
				for slot, i := range choice {
					lo += k.Slots[slot][i].Values[q].Lo
					hi += k.Slots[slot][i].Values[q].Hi
				}
				if v[q] != (api.Range{Lo: lo, Hi: hi}) {
					t.Error(k, choice, q, v[q])
				}
			}
			if n, e := design.CostOf(k, choice); e != api.OK || n != costBySum(k, choice) {
				t.Error(k, choice, n, e)
			}
		}
	}
}

// P2.2: the errors of stocks come before those of choices and of slots.
func TestStockErrors(t *testing.T) {
	for _, b := range badStocks() {
		for _, choice := range [][]int{nil, {0}, {0, 0, 0, 0}, {least}} {
			if v, e := design.ValuesOf(b.stock, choice); e != b.want || v != [6]api.Range{} {
				t.Error(b, v, e)
			}
			if n, e := design.CostOf(b.stock, choice); e != b.want || n != 0 {
				t.Error(b, n, e)
			}
		}
		for _, slot := range []int{0, 99} {
			if l, e := design.Undominated(b.stock, slot); e != b.want || len(l) != 0 {
				t.Error(b, l, e)
			}
		}
	}
	k := exampleStock()
	for _, b := range badChoices() {
		if v, e := design.ValuesOf(k, b.choice); e != b.want || v != [6]api.Range{} {
			t.Error(b, v, e)
		}
		if n, e := design.CostOf(k, b.choice); e != b.want || n != 0 {
			t.Error(b, n, e)
		}
	}
	for _, slot := range []int{-1, 2, least, greatest} {
		if l, e := design.Undominated(k, slot); e != api.ErrMissing || len(l) != 0 {
			t.Error(slot, l, e)
		}
	}
}

// P2.2: which parts no other one dominates.
func TestUndominated(t *testing.T) {
	for _, x := range []struct {
		parts []string
		want  []int
	}{
		{[]string{"a 0 0 0 0 0 0 0 0 0 0 0 0 0"}, []int{0}},
		{[]string{"a 5 1 2 1 2 1 2 1 2 1 2 1 2", "b 5 1 2 1 2 1 2 1 2 1 2 1 2"}, []int{0}},
		{[]string{"a 5 1 2 1 2 1 2 1 2 1 2 1 2", "b 4 1 2 1 2 1 2 1 2 1 2 1 2", "c 4 1 2 1 2 1 2 1 2 1 2 1 2"}, []int{1}},
		{[]string{"a 5 1 2 1 2 1 2 1 2 1 2 1 2", "b 5 1 1 1 2 1 2 1 2 1 2 1 2"}, []int{1}},
		{[]string{"a 5 1 2 1 2 1 2 1 2 1 2 1 2", "b 5 0 2 1 2 1 2 1 2 1 2 1 2"}, []int{1}},
		{[]string{"a 5 1 2 1 2 1 2 1 2 1 2 1 2", "b 5 1 2 0 1 1 2 1 2 1 2 1 2"}, []int{1}},
		{[]string{"a 5 1 2 1 2 1 2 1 2 1 2 1 2", "b 5 1 2 1 2 0 1 1 2 1 2 1 2"}, []int{1}},
		{[]string{"a 5 1 2 1 2 1 2 1 2 1 2 1 2", "b 5 1 2 1 2 1 2 0 1 1 2 1 2"}, []int{1}},
		{[]string{"a 5 1 2 1 2 1 2 1 2 1 2 1 2", "b 5 1 2 1 2 1 2 1 2 0 1 1 2"}, []int{0, 1}},
		{[]string{"a 5 1 2 1 2 1 2 1 2 1 2 1 2", "b 4 1 2 1 2 1 2 1 2 1 1 1 2"}, []int{0, 1}},
		{[]string{"a 5 1 2 1 2 1 2 1 2 1 2 1 2", "b 4 1 2 1 2 1 2 1 2 1 2 0 2"}, []int{0, 1}},
		{[]string{"a 5 1 2 1 2 1 2 1 2 1 2 1 2", "b 4 0 3 1 2 1 2 1 2 1 2 1 2"}, []int{0, 1}},
		{[]string{"a 5 2 2 1 2 1 2 1 2 1 2 1 2", "b 5 1 3 1 2 1 2 1 2 1 2 1 2"}, []int{0, 1}},
		{[]string{"a 5 1 2 1 2 1 2 1 2 1 2 1 2", "b 6 0 0 0 0 0 0 0 0 1 2 1 2", "c 6 0 0 0 0 0 0 0 0 1 2 1 2", "d 5 0 1 1 2 1 2 1 2 1 2 1 2"}, []int{1, 3}},
	} {
		k := api.DesignStock{Slots: [][]api.DesignPart{{part(t, "other 1 0 0 0 0 0 0 0 0 0 0 0 0")}, nil}}
		for _, s := range x.parts {
			k.Slots[1] = append(k.Slots[1], part(t, s))
		}
		if l, e := design.Undominated(k, 1); e != api.OK || !slices.Equal(l, x.want) {
			t.Error(x, l, e)
		}
	}
	for slot := range 2 {
		if l, e := design.Undominated(exampleStock(), slot); e != api.OK || !slices.Equal(l, []int{0, 1}) {
			t.Error(slot, l, e)
		}
	}
}

// P2.13: the cheapest design of the undominated parts costs as much as that of all parts.
func TestUndominatedSuffice(t *testing.T) {
	r := numbers(4)
	found, fewer := 0, 0
	for range 3000 {
		k, x := randomStock(&r), randomSpec(&r)
		for i := range x.Requirements {
			q := &x.Requirements[i]
			q.AtLeast = false
			for j := range q.Terms {
				q.Terms[j].Factor = max(q.Terms[j].Factor, -q.Terms[j].Factor)
			}
		}
		rest := k
		rest.Slots = nil
		for slot, parts := range k.Slots {
			l, e := design.Undominated(k, slot)
			if e != api.OK || len(l) == 0 {
				t.Fatal(k, slot, l, e)
			}
			var kept []api.DesignPart
			for _, i := range l {
				kept = append(kept, parts[i])
			}
			rest.Slots = append(rest.Slots, kept)
			if len(kept) < len(parts) {
				fewer++
			}
		}
		_, n, e := design.Cheapest(x, k)
		_, m, f := design.Cheapest(x, rest)
		if n != m || e != f {
			t.Error(design.FormatSpec(x), k, n, e, m, f)
		}
		if e == api.OK {
			found++
		}
	}
	if found < 100 || fewer < 100 {
		t.Error(found, fewer)
	}
}
