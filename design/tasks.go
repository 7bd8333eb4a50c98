package design

import (
	"iter"
	"slices"

	"buchholz/api"
)

// task is a stock, and the requirements that a choice from it is to keep. All of it is valid.
type task struct {
	stock
	requirements []api.DesignRequirement
}

func taskFrom(x api.DesignSpec, k api.DesignStock) (task, api.Errno) {
	_, spec := CheckSpec(x)
	_, parts := CheckStock(k)
	if e := firstOf(spec, parts); e != api.OK {
		return task{}, e
	}
	return task{stock: stock(k), requirements: x.Requirements}, api.OK
}

func times(r api.Range, factor int) api.Range {
	if factor < 0 {
		return api.Range{Lo: factor * r.Hi, Hi: factor * r.Lo}
	}
	return api.Range{Lo: factor * r.Lo, Hi: factor * r.Hi}
}

// direction is by what a requirement is multiplied to say that a sum is at most a limit.
func direction(r api.DesignRequirement) int {
	if r.AtLeast {
		return -1
	}
	return 1
}

// allowed returns what the needs of all parts may add up to.
func allowed(r api.DesignRequirement) int {
	return direction(r) * r.Limit
}

// needOf returns how much of what a requirement allows is taken by values, as a range over all materials. The need of a part is its upper end.
func needOf(r api.DesignRequirement, v values) api.Range {
	var sum api.Range
	for _, t := range r.Terms {
		need := times(v[t.Quantity], direction(r)*t.Factor)
		sum.Lo += need.Lo
		sum.Hi += need.Hi
	}
	return sum
}

// margins yields the margins of a choice.
func (t task) margins(choice []int) iter.Seq[api.Range] {
	return func(yield func(api.Range) bool) {
		v := t.valuesOf(choice)
		for _, r := range t.requirements {
			need := needOf(r, v)
			if !yield(api.Range{Lo: allowed(r) - need.Hi, Hi: allowed(r) - need.Lo}) {
				return
			}
		}
	}
}

func (t task) answer(choice []int) int {
	answer := api.AnswerYes
	for m := range t.margins(choice) {
		if m.Hi < 0 {
			return api.AnswerNo
		}
		if m.Lo < 0 {
			answer = api.AnswerMaybe
		}
	}
	return answer
}

// isContradictory returns whether no choice keeps all requirements for all materials.
func (t task) isContradictory() bool {
	for choice := range t.choices() {
		if t.answer(choice) == api.AnswerYes {
			return false
		}
	}
	return true
}

// only returns the task with the requirements of a set.
func (t task) only(set []int) task {
	return task{stock: t.stock, requirements: picked(t.requirements, set)}
}

// MarginsOf returns the margins of all requirements.
func MarginsOf(x api.DesignSpec, k api.DesignStock, choice []int) ([]api.Range, api.Errno) {
	t, e := taskFrom(x, k)
	if e = firstOf(e, t.checkChoice(choice)); e != api.OK {
		return nil, e
	}
	return slices.Collect(t.margins(choice)), api.OK
}

// Meets returns whether a choice meets a specification, as an answer.
func Meets(x api.DesignSpec, k api.DesignStock, choice []int) (int, api.Errno) {
	t, e := taskFrom(x, k)
	if e = firstOf(e, t.checkChoice(choice)); e != api.OK {
		return 0, e
	}
	return t.answer(choice), api.OK
}

// Cheapest returns the cheapest design, and its cost.
func Cheapest(x api.DesignSpec, k api.DesignStock) ([]int, int, api.Errno) {
	t, e := taskFrom(x, k)
	if e != api.OK {
		return nil, 0, e
	}
	var best []int
	least := 0
	for choice := range t.choices() {
		cost := t.costOf(choice)
		if (best == nil || cost < least) && t.answer(choice) == api.AnswerYes {
			best, least = slices.Clone(choice), cost
		}
	}
	if best == nil {
		return nil, 0, api.ErrNone
	}
	return best, least, api.OK
}

// Contradicting returns the indexes of the minimum set of requirements that contradict the stock.
func Contradicting(x api.DesignSpec, k api.DesignStock) ([]int, api.Errno) {
	t, e := taskFrom(x, k)
	if e != api.OK {
		return nil, e
	}
	all := len(t.requirements)
	for set := range setsFrom(all, all) {
		if t.only(set).isContradictory() {
			return slices.Clone(set), api.OK
		}
	}
	return nil, api.ErrNone
}
