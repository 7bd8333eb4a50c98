package design_test

import (
	"math"
	"slices"
	"strconv"
	"testing"

	"buchholz/api"
	"buchholz/design"
)

const (
	least    = math.MinInt
	greatest = math.MaxInt
)

// The word of each unit's quantities, written out again: the tests do not rely on the tables of the package.
var quantitiesOf = [api.DesignUnits][]int{{api.DesignMass, api.DesignCopper}, {api.DesignIdle, api.DesignLoad}, {api.DesignHeight, api.DesignWidth}}

// numbers is a sequence of numbers that look as if they were random, and are always the same ones.
type numbers uint64

// below returns a number from 0 to n - 1.
func (r *numbers) below(n int) int {
	*r = *r*6364136223846793005 + 1442695040888963407
	return int(uint64(*r) >> 33 % uint64(n))
}

// spec returns the specification with a string.
func spec(t *testing.T, s string) api.DesignSpec {
	t.Helper()
	x, i, e := design.ParseSpec(s)
	if e != api.OK || i != 0 {
		t.Fatal(s, i, e)
	}
	return x
}

// part returns the part with a string.
func part(t *testing.T, s string) api.DesignPart {
	t.Helper()
	p, e := design.ParsePart(s)
	if e != api.OK {
		t.Fatal(s, e)
	}
	return p
}

// exampleStock is the stock of the chapter's examples.
func exampleStock() api.DesignStock {
	thin := api.DesignPart{Name: "thin", Price: 100}
	thin.Values[api.DesignMass], thin.Values[api.DesignIdle] = api.Range{Lo: 10, Hi: 12}, api.Range{Lo: 5, Hi: 6}
	thick := api.DesignPart{Name: "thick", Price: 70}
	thick.Values[api.DesignMass], thick.Values[api.DesignIdle] = api.Range{Lo: 14, Hi: 15}, api.Range{Lo: 8, Hi: 9}
	copper := api.DesignPart{Name: "copper", Price: 50}
	copper.Values[api.DesignMass], copper.Values[api.DesignCopper], copper.Values[api.DesignLoad] = api.Range{Lo: 6, Hi: 6}, api.Range{Lo: 6, Hi: 6}, api.Range{Lo: 20, Hi: 22}
	alu := api.DesignPart{Name: "alu", Price: 30}
	alu.Values[api.DesignMass], alu.Values[api.DesignLoad] = api.Range{Lo: 4, Hi: 4}, api.Range{Lo: 30, Hi: 33}
	return api.DesignStock{Slots: [][]api.DesignPart{{thin, thick}, {copper, alu}}, IdlePrice: 2, Price: 1}
}

// randomStock returns a valid stock with small numbers, so that parts are often equal or dominated. Most parts have the same sizes.
func randomStock(r *numbers) api.DesignStock {
	k := api.DesignStock{IdlePrice: r.below(3), Price: r.below(3)}
	for range 1 + r.below(3) {
		var parts []api.DesignPart
		for i := range 1 + r.below(4) {
			p := api.DesignPart{Name: "p" + strconv.Itoa(i), Price: r.below(6)}
			for q := range p.Values {
				if q < api.DesignHeight || r.below(8) == 0 {
					lo := r.below(4)
					p.Values[q] = api.Range{Lo: lo, Hi: lo + r.below(3)}
				}
			}
			parts = append(parts, p)
		}
		k.Slots = append(k.Slots, parts)
	}
	return k
}

// randomSpec returns a valid specification with small numbers, whose requirements are neither easily kept nor hopeless.
func randomSpec(r *numbers) api.DesignSpec {
	var x api.DesignSpec
	for range 1 + r.below(4) {
		unit := []int{api.DesignKilograms, api.DesignKilograms, api.DesignWatts, api.DesignWatts, api.DesignMillimetres}[r.below(5)]
		quantities := slices.Clone(quantitiesOf[unit])
		if r.below(2) == 0 {
			slices.Reverse(quantities)
		}
		q := api.DesignRequirement{Unit: unit, AtLeast: r.below(2) == 0}
		sum := 0
		for _, quantity := range quantities[:1+r.below(2)] {
			factor := 1 + r.below(3)
			if r.below(3) == 0 {
				factor = -factor
			}
			sum += factor
			q.Terms = append(q.Terms, api.DesignTerm{Factor: factor, Quantity: quantity})
		}
		if q.AtLeast == (sum < 0) {
			sum *= 3 + r.below(6)
		} else {
			sum *= r.below(4)
		}
		q.Limit = sum + r.below(5) - 2
		x.Requirements = append(x.Requirements, q)
	}
	return x
}

// randomPrices returns prices of all requirements of a specification.
func randomPrices(r *numbers, x api.DesignSpec) []int {
	var prices []int
	for range x.Requirements {
		prices = append(prices, r.below(5))
	}
	return prices
}

// allChoices returns all choices, in lexicographical order.
func allChoices(k api.DesignStock) [][]int {
	l := [][]int{nil}
	for _, parts := range k.Slots {
		var longer [][]int
		for _, c := range l {
			for i := range parts {
				longer = append(longer, append(slices.Clone(c), i))
			}
		}
		l = longer
	}
	return l
}

// costBySum returns the cost of a choice, added up number by number.
func costBySum(k api.DesignStock, choice []int) int {
	sum := 0
	for slot, i := range choice {
		p := k.Slots[slot][i]
		sum += p.Price + p.Values[api.DesignIdle].Hi*k.IdlePrice + p.Values[api.DesignLoad].Hi*k.Price
	}
	return sum
}

// marginsByEnds returns the margins of a requirement for all combinations of ends of the values of the terms' quantities.
func marginsByEnds(q api.DesignRequirement, k api.DesignStock, choice []int) []int {
	sums := []int{0}
	for _, t := range q.Terms {
		var lo, hi int
		for slot, i := range choice {
			lo += k.Slots[slot][i].Values[t.Quantity].Lo
			hi += k.Slots[slot][i].Values[t.Quantity].Hi
		}
		var more []int
		for _, s := range sums {
			more = append(more, s+t.Factor*lo, s+t.Factor*hi)
		}
		sums = more
	}
	for i, s := range sums {
		sums[i] = q.Limit - s
		if q.AtLeast {
			sums[i] = s - q.Limit
		}
	}
	return sums
}

// keepsBySearch returns whether a choice keeps a requirement for all materials.
func keepsBySearch(q api.DesignRequirement, k api.DesignStock, choice []int) bool {
	return slices.Min(marginsByEnds(q, k, choice)) >= 0
}

type badSpec struct {
	spec  api.DesignSpec
	index int
	want  api.Errno
}

func requirement(unit, limit int, terms ...api.DesignTerm) api.DesignRequirement {
	return api.DesignRequirement{Terms: terms, Limit: limit, Unit: unit}
}

// badSpecs returns specifications that are not valid, each one with a valid requirement before the wrong one if the error is one of a requirement.
func badSpecs() []badSpec {
	good := requirement(api.DesignKilograms, 5, api.DesignTerm{Factor: 1})
	mass := api.DesignTerm{Factor: 1, Quantity: api.DesignMass}
	copper := api.DesignTerm{Factor: -1000, Quantity: api.DesignCopper}
	load := api.DesignTerm{Factor: 1, Quantity: api.DesignLoad}
	term := func(factor, quantity int) api.DesignTerm {
		return api.DesignTerm{Factor: factor, Quantity: quantity}
	}
	l := []badSpec{
		{api.DesignSpec{}, 0, api.ErrShape},
		{api.DesignSpec{Requirements: []api.DesignRequirement{}}, 0, api.ErrShape},
		{api.DesignSpec{Requirements: make([]api.DesignRequirement, 7)}, 0, api.ErrLarge},
	}
	for _, x := range []struct {
		q    api.DesignRequirement
		want api.Errno
	}{
		{requirement(9, greatest), api.ErrShape},
		{requirement(0, 0, mass, copper, mass, copper, mass), api.ErrLarge},
		{requirement(0, 0, term(0, 0), mass, mass, mass, mass), api.ErrLarge},
		{requirement(9, greatest, term(0, 9)), api.ErrRange},
		{requirement(0, 0, term(1001, 0)), api.ErrRange},
		{requirement(0, 0, term(-1001, 0)), api.ErrRange},
		{requirement(0, 0, term(least, 0)), api.ErrRange},
		{requirement(0, 0, term(greatest, 0)), api.ErrRange},
		{requirement(9, greatest, term(1, 6)), api.ErrMissing},
		{requirement(0, 0, term(1, -1)), api.ErrMissing},
		{requirement(0, 0, term(1, least)), api.ErrMissing},
		{requirement(9, greatest, mass), api.ErrKind},
		{requirement(-1, 0, mass), api.ErrKind},
		{requirement(api.DesignWatts, 0, mass), api.ErrKind},
		{requirement(api.DesignKilograms, 0, mass, load), api.ErrKind},
		{requirement(api.DesignWatts, 0, mass, mass), api.ErrKind},
		{requirement(api.DesignKilograms, greatest, mass, mass), api.ErrDouble},
		{requirement(api.DesignKilograms, 0, mass, copper, mass), api.ErrDouble},
		{requirement(api.DesignKilograms, 0, mass, copper, copper, mass), api.ErrDouble},
		{requirement(api.DesignKilograms, 0, mass, term(0, 0)), api.ErrRange},
		{requirement(api.DesignKilograms, api.MaxDesignLimit+1, mass), api.ErrRange},
		{requirement(api.DesignKilograms, -api.MaxDesignLimit-1, mass, copper), api.ErrRange},
		{requirement(api.DesignKilograms, least, mass), api.ErrRange},
	} {
		l = append(l,
			badSpec{api.DesignSpec{Requirements: []api.DesignRequirement{x.q}}, 0, x.want},
			badSpec{api.DesignSpec{Requirements: []api.DesignRequirement{good, good, x.q, {}}}, 2, x.want},
		)
	}
	return l
}

type badPart struct {
	part api.DesignPart
	want api.Errno
}

// badParts returns parts that are not valid.
func badParts() []badPart {
	wrong := [6]api.Range{{Lo: -1, Hi: -2}}
	ranged := func(q, lo, hi int) api.DesignPart {
		p := api.DesignPart{Name: "a"}
		p.Values[q] = api.Range{Lo: lo, Hi: hi}
		return p
	}
	twice := ranged(0, 2, 1)
	twice.Values[1].Lo = -1
	return []badPart{
		{api.DesignPart{Name: "", Price: -1, Values: wrong}, api.ErrName},
		{api.DesignPart{Name: "abcdefghijklm"}, api.ErrName},
		{api.DesignPart{Name: "1a"}, api.ErrName},
		{api.DesignPart{Name: "-a"}, api.ErrName},
		{api.DesignPart{Name: "a_b"}, api.ErrName},
		{api.DesignPart{Name: "a b"}, api.ErrName},
		{api.DesignPart{Name: "a\x00"}, api.ErrName},
		{api.DesignPart{Name: "\xc3\xa4"}, api.ErrName},
		{api.DesignPart{Name: "a\xc3\xa4"}, api.ErrName},
		{api.DesignPart{Name: "a@"}, api.ErrName},
		{api.DesignPart{Name: "a["}, api.ErrName},
		{api.DesignPart{Name: "a`"}, api.ErrName},
		{api.DesignPart{Name: "a{"}, api.ErrName},
		{api.DesignPart{Name: "a/"}, api.ErrName},
		{api.DesignPart{Name: "a:"}, api.ErrName},
		{api.DesignPart{Name: "a", Price: -1, Values: wrong}, api.ErrRange},
		{api.DesignPart{Name: "a", Price: api.MaxDesignValue + 1}, api.ErrRange},
		{api.DesignPart{Name: "a", Price: least}, api.ErrRange},
		{ranged(0, -1, 0), api.ErrRange},
		{ranged(0, -1, -2), api.ErrRange},
		{ranged(5, 0, api.MaxDesignValue+1), api.ErrRange},
		{ranged(2, api.MaxDesignValue+1, 0), api.ErrRange},
		{ranged(3, 0, -1), api.ErrRange},
		{ranged(1, least, greatest), api.ErrRange},
		{ranged(4, 1, 0), api.ErrOrder},
		{ranged(5, api.MaxDesignValue, api.MaxDesignValue-1), api.ErrOrder},
		{twice, api.ErrOrder},
	}
}

type badStock struct {
	stock api.DesignStock
	index int
	want  api.Errno
}

// badStocks returns stocks that are not valid.
func badStocks() []badStock {
	a, b := api.DesignPart{Name: "a"}, api.DesignPart{Name: "b"}
	good := []api.DesignPart{a, b}
	l := []badStock{
		{api.DesignStock{}, 0, api.ErrShape},
		{api.DesignStock{IdlePrice: -1}, 0, api.ErrRange},
		{api.DesignStock{Price: -1}, 0, api.ErrRange},
		{api.DesignStock{Slots: [][]api.DesignPart{good}, IdlePrice: api.MaxDesignSize + 1}, 0, api.ErrRange},
		{api.DesignStock{Slots: [][]api.DesignPart{good}, Price: api.MaxDesignSize + 1}, 0, api.ErrRange},
		{api.DesignStock{Slots: [][]api.DesignPart{good}, Price: least}, 0, api.ErrRange},
		{api.DesignStock{Slots: make([][]api.DesignPart, 6), Price: greatest}, 0, api.ErrRange},
		{api.DesignStock{Slots: make([][]api.DesignPart, 6)}, 0, api.ErrLarge},
	}
	slot := func(want api.Errno, parts ...api.DesignPart) {
		l = append(l,
			badStock{api.DesignStock{Slots: [][]api.DesignPart{parts}}, 0, want},
			badStock{api.DesignStock{Slots: [][]api.DesignPart{good, good, parts, {}}}, 2, want},
		)
	}
	slot(api.ErrShape)
	slot(api.ErrLarge, make([]api.DesignPart, 7)...)
	slot(api.ErrExists, a, b, a)
	slot(api.ErrExists, a, api.DesignPart{Name: "a", Price: -1})
	slot(api.ErrName, a, api.DesignPart{Name: "?", Price: -1}, a)
	for _, p := range badParts() {
		slot(p.want, p.part, p.part)
		slot(p.want, b, p.part)
	}
	return l
}

// badChoices returns choices that the stock of the examples does not have.
func badChoices() []struct {
	choice []int
	want   api.Errno
} {
	return []struct {
		choice []int
		want   api.Errno
	}{
		{nil, api.ErrShape},
		{[]int{0}, api.ErrShape},
		{[]int{9, 9, 9}, api.ErrShape},
		{[]int{-1, 0}, api.ErrMissing},
		{[]int{0, 2}, api.ErrMissing},
		{[]int{2, 0}, api.ErrMissing},
		{[]int{least, greatest}, api.ErrMissing},
	}
}
