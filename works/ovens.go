package works

import "buchholz/api"

// oven is a valid oven.
type oven struct{ api.WorksOven }

// CheckOven accepts an oven.
func CheckOven(o api.WorksOven) api.Errno {
	return firstOf(
		within(0, api.WorksRate)(o.Rate.Lo, o.Rate.Hi),
		inOrder(o.Rate),
		checkWater(o.Floor),
	)
}

func checkWater(water int) api.Errno {
	return within(0, api.MaxWorksWater)(water)
}

func checkWaters(water api.Range) api.Errno {
	return firstOf(checkWater(water.Lo), checkWater(water.Hi), inOrder(water))
}

// dried returns the water after a step with a rate.
func (o oven) dried(water, rate int) int {
	if water <= o.Floor {
		return water
	}
	return water - (water-o.Floor)*rate/api.WorksRate
}

// DryAfter returns the water after steps.
func DryAfter(o api.WorksOven, water api.Range, steps int) (api.Range, api.Errno) {
	if e := firstOf(CheckOven(o), checkWaters(water), within(0, api.MaxWorksSteps)(steps)); e != api.OK {
		return api.Range{}, e
	}
	x := oven{o}
	for range steps {
		water = api.Range{Lo: x.dried(water.Lo, o.Rate.Hi), Hi: x.dried(water.Hi, o.Rate.Lo)}
	}
	return water, api.OK
}

// StepsFor returns the minimum number of steps after which the water is surely at most a target.
func StepsFor(o api.WorksOven, water api.Range, target int) (int, api.Errno) {
	if e := firstOf(CheckOven(o), checkWaters(water), checkWater(target)); e != api.OK {
		return 0, e
	}
	x, most := oven{o}, water.Hi
	for steps := range api.MaxWorksSteps + 1 {
		if most <= target {
			return steps, api.OK
		}
		most = x.dried(most, o.Rate.Lo)
	}
	return 0, api.ErrNone
}
