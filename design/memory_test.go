package design_test

import (
	"reflect"
	"testing"

	"buchholz/api"
	"buchholz/design"
)

// R3: no function changes its arguments.
func TestArgumentsAreKept(t *testing.T) {
	r := numbers(13)
	for range 200 {
		seed := r
		k, x := randomStock(&r), randomSpec(&r)
		prices := randomPrices(&r, x)
		choice := make([]int, len(k.Slots))
		design.CheckSpec(x)
		design.CheckStock(k)
		design.ValuesOf(k, choice)
		design.CostOf(k, choice)
		design.MarginsOf(x, k, choice)
		design.Meets(x, k, choice)
		design.Cheapest(x, k)
		design.Contradicting(x, k)
		design.BoundOf(x, k, prices)
		design.GapOf(x, k, api.DesignOffer{Choice: choice, Prices: prices})
		design.Undominated(k, 0)
		if !reflect.DeepEqual(k, randomStock(&seed)) || !reflect.DeepEqual(x, randomSpec(&seed)) || !reflect.DeepEqual(prices, randomPrices(&seed, x)) {
			t.Fatal(k, x, prices)
		}
		if !reflect.DeepEqual(choice, make([]int, len(k.Slots))) {
			t.Fatal(choice)
		}
	}
}

// R3: a change of a result changes neither arguments nor later results.
func TestResultsAreNew(t *testing.T) {
	widths := []int{9, 8, 6}
	steps, _, _ := design.BestSteps(10, widths, 3)
	steps[0] = 1
	if again, _, _ := design.BestSteps(10, widths, 3); !reflect.DeepEqual(widths, []int{9, 8, 6}) || !reflect.DeepEqual(again, widths) {
		t.Error(widths, again)
	}
	k, x := exampleStock(), spec(t, "mass <= 18 kg ; load <= 25 W ; copper <= 5 kg")
	set, _ := design.Contradicting(x, k)
	set[0] = 9
	parts, _ := design.Undominated(k, 0)
	parts[0] = 9
	y := spec(t, "mass <= 18 kg ; mass <= 19 kg")
	y.Requirements[0].Terms[0].Factor = 9
	if y.Requirements[1].Terms[0].Factor != 1 || spec(t, "mass <= 18 kg").Requirements[0].Terms[0].Factor != 1 {
		t.Error(y)
	}
	if set, _ := design.Contradicting(x, k); !reflect.DeepEqual(set, []int{1, 2}) {
		t.Error(set)
	}
	if parts, _ := design.Undominated(k, 0); !reflect.DeepEqual(parts, []int{0, 1}) {
		t.Error(parts)
	}
}
