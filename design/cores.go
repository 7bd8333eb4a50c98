package design

import (
	"sort"

	"buchholz/api"
)

func checkDiameter(diameter int) api.Errno {
	return checkRange(1, api.MaxDesignDiameter, diameter)
}

func checkWidths(diameter int, widths []int) api.Errno {
	if e := checkDiameter(diameter); e != api.OK {
		return e
	}
	if len(widths) > api.MaxDesignWidths {
		return api.ErrLarge
	}
	for i, w := range widths {
		if e := checkRange(1, diameter, w); e != api.OK {
			return e
		}
		if i > 0 && w >= widths[i-1] {
			return api.ErrOrder
		}
	}
	return api.OK
}

// heightFor returns the root of D D - w w, rounded down, for a valid diameter and width.
func heightFor(diameter, width int) int {
	square := diameter*diameter - width*width
	return sort.Search(diameter, func(h int) bool { return (h+1)*(h+1) > square })
}

func areaFor(diameter int, widths []int) int {
	area, before := 0, 0
	for _, w := range widths {
		height := heightFor(diameter, w)
		area += w * (height - before)
		before = height
	}
	return area
}

// HeightOf returns how high a pile of strips of a width may be within a circle.
func HeightOf(diameter, width int) (int, api.Errno) {
	if e := firstOf(checkDiameter(diameter), checkRange(1, diameter, width)); e != api.OK {
		return 0, e
	}
	return heightFor(diameter, width), api.OK
}

// AreaOf returns the area of strips of descending widths within a circle.
func AreaOf(diameter int, widths []int) (int, api.Errno) {
	if e := checkWidths(diameter, widths); e != api.OK {
		return 0, e
	}
	return areaFor(diameter, widths), api.OK
}

// BestSteps returns the at most so many widths with the maximum area, and this area.
func BestSteps(diameter int, widths []int, most int) ([]int, int, api.Errno) {
	e := firstOf(checkWidths(diameter, widths), checkRange(1, api.MaxDesignWidths, most))
	if e != api.OK {
		return nil, 0, e
	}
	if len(widths) == 0 {
		return nil, 0, api.ErrShape
	}
	var best []int
	area := 0
	for set := range setsFrom(len(widths), most) {
		steps := picked(widths, set)
		if a := areaFor(diameter, steps); a > area {
			best, area = steps, a
		}
	}
	return best, area, api.OK
}
