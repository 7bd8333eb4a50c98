package design

import (
	"math"

	"buchholz/api"
)

func (t task) checkPrices(prices []int) api.Errno {
	if len(prices) != len(t.requirements) {
		return api.ErrShape
	}
	return checkRange(0, api.MaxDesignMultiplier, prices...)
}

// bound returns the bound of prices. A choice that keeps all requirements needs no more than they allow: what is paid for its needs is at most what is subtracted at the end.
func (t task) bound(prices []int) int {
	sum := 0
	for _, parts := range t.Slots {
		least := math.MaxInt
		for _, p := range parts {
			least = min(least, t.costWithNeeds(p, prices))
		}
		sum += least
	}
	for i, r := range t.requirements {
		sum -= prices[i] * allowed(r)
	}
	return sum
}

func (t task) costWithNeeds(p api.DesignPart, prices []int) int {
	sum := t.costOfPart(p)
	for i, r := range t.requirements {
		sum += prices[i] * needOf(r, p.Values).Hi
	}
	return sum
}

// BoundOf returns the bound of prices: no design that meets the specification for all materials costs less.
func BoundOf(x api.DesignSpec, k api.DesignStock, prices []int) (int, api.Errno) {
	t, e := taskFrom(x, k)
	if e = firstOf(e, t.checkPrices(prices)); e != api.OK {
		return 0, e
	}
	return t.bound(prices), api.OK
}

// GapOf returns by how much the choice of an offer costs more than the bound of its prices.
func GapOf(x api.DesignSpec, k api.DesignStock, p api.DesignOffer) (int, api.Errno) {
	t, e := taskFrom(x, k)
	if e = firstOf(e, t.checkChoice(p.Choice), t.checkPrices(p.Prices)); e != api.OK {
		return 0, e
	}
	if t.answer(p.Choice) != api.AnswerYes {
		return 0, api.ErrRefused
	}
	return t.costOf(p.Choice) - t.bound(p.Prices), api.OK
}
