package design

import "buchholz/api"

func checkWinding(w api.DesignWinding) api.Errno {
	e := firstOf(
		checkRange(1, api.MaxDesignTurns, w.Turns),
		checkRange(1, api.MaxDesignDiscs, w.Discs),
		checkRange(1, api.MaxDesignSize, w.Conductor),
		checkRange(0, api.MaxDesignSize, w.Gap),
	)
	if e == api.OK && w.Discs > w.Turns {
		return api.ErrShape
	}
	return e
}

func lengthFor(w api.DesignWinding) int {
	return w.Discs*w.Conductor + (w.Discs-1)*w.Gap
}

func dividedUp(n, by int) int {
	return (n + by - 1) / by
}

// DiscsOf returns the turns of each disc of a winding.
func DiscsOf(w api.DesignWinding) ([]int, api.Errno) {
	if e := checkWinding(w); e != api.OK {
		return nil, e
	}
	discs := make([]int, w.Discs)
	for i := range discs {
		discs[i] = w.Turns / w.Discs
		if i < w.Turns%w.Discs {
			discs[i]++
		}
	}
	return discs, api.OK
}

// LengthOf returns the length of a winding.
func LengthOf(w api.DesignWinding) (int, api.Errno) {
	if e := checkWinding(w); e != api.OK {
		return 0, e
	}
	return lengthFor(w), api.OK
}

// FewestDiscs returns in how few discs a winding fits a room, if none of them has more turns than the discs of the winding.
func FewestDiscs(w api.DesignWinding, room int) (int, api.Errno) {
	if e := firstOf(checkWinding(w), checkRange(1, api.MaxDesignValue, room)); e != api.OK {
		return 0, e
	}
	turns := dividedUp(w.Turns, w.Discs)
	w.Discs = dividedUp(w.Turns, turns)
	if lengthFor(w) > room {
		return 0, api.ErrBreak
	}
	return w.Discs, api.OK
}
