package design

import (
	"iter"

	"buchholz/api"
)

// stock is an api.DesignStock that is valid.
type stock api.DesignStock

// values is a range for each quantity.
type values [api.DesignQuantities]api.Range

// choices yields all choices, in lexicographical order.
func (k stock) choices() iter.Seq[[]int] {
	counts := make([]int, len(k.Slots))
	for i, parts := range k.Slots {
		counts[i] = len(parts)
	}
	return choicesFrom(counts)
}

func (k stock) checkChoice(choice []int) api.Errno {
	if len(choice) != len(k.Slots) {
		return api.ErrShape
	}
	for slot, i := range choice {
		if i < 0 || i >= len(k.Slots[slot]) {
			return api.ErrMissing
		}
	}
	return api.OK
}

// chosen yields the parts of a choice.
func (k stock) chosen(choice []int) iter.Seq[api.DesignPart] {
	return func(yield func(api.DesignPart) bool) {
		for slot, i := range choice {
			if !yield(k.Slots[slot][i]) {
				return
			}
		}
	}
}

func (k stock) valuesOf(choice []int) values {
	var sum values
	for p := range k.chosen(choice) {
		for q, r := range p.Values {
			sum[q].Lo += r.Lo
			sum[q].Hi += r.Hi
		}
	}
	return sum
}

func (k stock) costOfPart(p api.DesignPart) int {
	return p.Price + k.IdlePrice*p.Values[api.DesignIdle].Hi + k.Price*p.Values[api.DesignLoad].Hi
}

func (k stock) costOf(choice []int) int {
	sum := 0
	for p := range k.chosen(choice) {
		sum += k.costOfPart(p)
	}
	return sum
}

// ValuesOf returns the values of a choice.
func ValuesOf(k api.DesignStock, choice []int) ([6]api.Range, api.Errno) {
	_, e := CheckStock(k)
	if e = firstOf(e, stock(k).checkChoice(choice)); e != api.OK {
		return values{}, e
	}
	return stock(k).valuesOf(choice), api.OK
}

// CostOf returns the cost of a choice.
func CostOf(k api.DesignStock, choice []int) (int, api.Errno) {
	_, e := CheckStock(k)
	if e = firstOf(e, stock(k).checkChoice(choice)); e != api.OK {
		return 0, e
	}
	return stock(k).costOf(choice), api.OK
}

// Undominated returns the indexes of the parts of a slot that no other one dominates.
func Undominated(k api.DesignStock, slot int) ([]int, api.Errno) {
	if _, e := CheckStock(k); e != api.OK {
		return nil, e
	}
	if slot < 0 || slot >= len(k.Slots) {
		return nil, api.ErrMissing
	}
	var l []int
	for i := range k.Slots[slot] {
		if !isDominated(k.Slots[slot], i) {
			l = append(l, i)
		}
	}
	return l, api.OK
}

// isDominated returns whether another part dominates the part i. Parts that cover each other are equal but for their names: of these, and so of a part and itself, only an earlier one dominates.
func isDominated(parts []api.DesignPart, i int) bool {
	for j := range parts {
		if covers(parts[j], parts[i]) && (j < i || !covers(parts[i], parts[j])) {
			return true
		}
	}
	return false
}

// covers returns whether a part is at least as good as another one in everything. Of a mass or a loss less is better, but of a size nothing is known.
func covers(p, q api.DesignPart) bool {
	for i, r := range p.Values {
		s := q.Values[i]
		lessIsBetter := unitsOf[i] != api.DesignMillimetres
		if r != s && !(lessIsBetter && r.Lo <= s.Lo && r.Hi <= s.Hi) {
			return false
		}
	}
	return p.Price <= q.Price
}
