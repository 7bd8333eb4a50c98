package design

import "buchholz/api"

// The words of the quantities and of the units, and the units of the quantities, in the order of the constants.
var (
	quantityWords = [api.DesignQuantities]string{"mass", "copper", "idle", "load", "height", "width"}
	unitWords     = [api.DesignUnits]string{"kg", "W", "mm"}
	unitsOf       = [api.DesignQuantities]int{
		api.DesignKilograms, api.DesignKilograms,
		api.DesignWatts, api.DesignWatts,
		api.DesignMillimetres, api.DesignMillimetres,
	}
)

// noWord stands in place of the word of a quantity or a unit that does not exist.
const noWord = "?"

func isQuantity(q int) bool {
	return q >= 0 && q < api.DesignQuantities
}

func quantityWord(q int) string {
	if !isQuantity(q) {
		return noWord
	}
	return quantityWords[q]
}

func unitWord(u int) string {
	if u < 0 || u >= api.DesignUnits {
		return noWord
	}
	return unitWords[u]
}

func quantityFor(word string) (int, bool) {
	for q, w := range quantityWords {
		if w == word {
			return q, true
		}
	}
	return 0, false
}

func unitFor(word string) (int, bool) {
	for u, w := range unitWords {
		if w == word {
			return u, true
		}
	}
	return 0, false
}
