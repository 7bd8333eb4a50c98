package design_test

import (
	"math"
	"testing"

	"buchholz/api"
	"buchholz/design"
)

// P2.5: the bounds of the chapter's examples, and of requirements with AtLeast and negative factors.
func TestBoundOf(t *testing.T) {
	for _, x := range []struct {
		s      string
		prices []int
		want   int
	}{
		{"mass <= 18 kg ; idle + load <= 40 W", []int{0, 0}, 151},
		{"mass <= 18 kg ; idle + load <= 40 W", []int{8, 0}, 159},
		{"mass >= 20 kg", []int{1}, 153},
		{"mass >= 20 kg", []int{10}, 160},
		{"- mass <= -20 kg", []int{10}, 160},
		{"2*mass - copper >= 30 kg", []int{10}, min(112-200, 88-280) + min(72-60, 63-80) + 300},
		{"mass <= 1000000000 kg", []int{10000}, min(112+120000, 88+150000) + min(72+60000, 63+40000) - 10000000000000},
	} {
		if n, e := design.BoundOf(spec(t, x.s), exampleStock(), x.prices); e != api.OK || n != x.want {
			t.Error(x, n, e)
		}
	}
}

// P2.5: the gap of the chapter's offer, and offers that are refused.
func TestGapOf(t *testing.T) {
	x := spec(t, "mass <= 18 kg ; idle + load <= 40 W")
	for _, o := range []struct {
		choice, prices []int
		want           int
		e              api.Errno
	}{
		{[]int{0, 1}, []int{8, 0}, 16, api.OK},
		{[]int{0, 1}, []int{0, 0}, 24, api.OK},
		{[]int{0, 0}, []int{8, 0}, 25, api.OK},
		{[]int{1, 0}, []int{8, 0}, 0, api.ErrRefused},
		{[]int{1, 1}, []int{8, 0}, 0, api.ErrRefused},
		{[]int{1, 0}, []int{8, -1}, 0, api.ErrRange},
		{[]int{1, 0}, []int{8}, 0, api.ErrShape},
	} {
		if n, e := design.GapOf(x, exampleStock(), api.DesignOffer{Choice: o.choice, Prices: o.prices}); e != o.e || n != o.want {
			t.Error(o, n, e)
		}
	}
	if n, e := design.GapOf(spec(t, "mass >= 20 kg"), exampleStock(), api.DesignOffer{Choice: []int{1, 0}, Prices: []int{10}}); e != api.OK || n != 0 {
		t.Error(n, e)
	}
}

// P2.5: the errors of prices; those of an offer's choice come before.
func TestPriceErrors(t *testing.T) {
	x, k := spec(t, "mass <= 18 kg ; idle + load <= 40 W"), exampleStock()
	for _, b := range []struct {
		prices []int
		want   api.Errno
	}{
		{nil, api.ErrShape},
		{[]int{0}, api.ErrShape},
		{[]int{-1, -1, -1}, api.ErrShape},
		{[]int{-1, 0}, api.ErrRange},
		{[]int{0, api.MaxDesignMultiplier + 1}, api.ErrRange},
		{[]int{least, greatest}, api.ErrRange},
	} {
		if n, e := design.BoundOf(x, k, b.prices); e != b.want || n != 0 {
			t.Error(b, n, e)
		}
		if n, e := design.GapOf(x, k, api.DesignOffer{Choice: []int{0, 1}, Prices: b.prices}); e != b.want || n != 0 {
			t.Error(b, n, e)
		}
		for _, c := range badChoices() {
			if n, e := design.GapOf(x, k, api.DesignOffer{Choice: c.choice, Prices: b.prices}); e != c.want || n != 0 {
				t.Error(b, c, n, e)
			}
		}
	}
	if _, e := design.BoundOf(x, k, []int{0, api.MaxDesignMultiplier}); e != api.OK {
		t.Error(e)
	}
}

// boundBySearch is the minimum, over all choices, of the cost minus what the lower ends of the margins are worth.
func boundBySearch(x api.DesignSpec, k api.DesignStock, prices []int) int {
	bound := math.MaxInt
	for _, choice := range allChoices(k) {
		sum := costBySum(k, choice)
		margins, _ := design.MarginsOf(x, k, choice)
		for i, m := range margins {
			sum -= prices[i] * m.Lo
		}
		bound = min(bound, sum)
	}
	return bound
}

// P2.5, P2.10 and P2.11: no choice that meets the specification costs less than a bound; prices 0.
func TestBounds(t *testing.T) {
	r := numbers(7)
	met, closed := 0, 0
	for range 2000 {
		k, x := randomStock(&r), randomSpec(&r)
		prices := randomPrices(&r, x)
		bound, e := design.BoundOf(x, k, prices)
		if e != api.OK || bound != boundBySearch(x, k, prices) {
			t.Error(design.FormatSpec(x), k, prices, bound, e)
		}
		_, least, _ := design.Cheapest(x, k)
		for _, choice := range allChoices(k) {
			answer, _ := design.Meets(x, k, choice)
			gap, e := design.GapOf(x, k, api.DesignOffer{Choice: choice, Prices: prices})
			if answer != api.AnswerYes {
				if e != api.ErrRefused || gap != 0 {
					t.Error(design.FormatSpec(x), k, choice, gap, e)
				}
				continue
			}
			cost := costBySum(k, choice)
			if e != api.OK || gap != cost-bound || gap < 0 || gap == 0 && cost != least {
				t.Error(design.FormatSpec(x), k, choice, gap, e)
			}
			met++
			if gap == 0 {
				closed++
			}
		}
		sum := 0
		for _, parts := range k.Slots {
			least := math.MaxInt
			for i := range parts {
				least = min(least, costBySum(api.DesignStock{Slots: [][]api.DesignPart{parts}, IdlePrice: k.IdlePrice, Price: k.Price}, []int{i}))
			}
			sum += least
		}
		if n, e := design.BoundOf(x, k, make([]int, len(prices))); e != api.OK || n != sum {
			t.Error(design.FormatSpec(x), k, n, e, sum)
		}
	}
	if met < 100 || closed < 10 {
		t.Error(met, closed)
	}
}
