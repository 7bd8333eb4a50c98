package surge

import "buchholz/api"

// growth is the sections with whose capacitances a number does not decrease. It does not increase with the other ones.
type growth struct{ series, earth func(section int) bool }

// end returns the upper or the lower end of a range.
func end(r api.Range, upper bool) int {
	if upper {
		return r.Hi
	}
	return r.Lo
}

// extreme returns the ladder in which a number is greatest, or least.
func extreme(r api.SurgeRanges, g growth, greatest bool) api.SurgeLadder {
	l := api.SurgeLadder{Earthed: r.Earthed}
	for i := range r.Series {
		l.Series = append(l.Series, end(r.Series[i], g.series(i) == greatest))
		l.Earth = append(l.Earth, end(r.Earth[i], g.earth(i) == greatest))
	}
	return l
}

// spanOf returns the span of a number that is made from initial voltages.
func spanOf(r api.SurgeRanges, g growth, number func(v []int) int) (api.Span, api.Errno) {
	least, most := initial(extreme(r, g, false)), initial(extreme(r, g, true))
	lo, e := limited(reduced(number(least), least[0]))
	hi, f := limited(reduced(number(most), most[0]))
	if e = firstOf(e, f); e != api.OK {
		return api.Span{}, e
	}
	return api.Span{Lo: lo, Hi: hi}, api.OK
}

// NodeSpan returns the span of a node.
func NodeSpan(r api.SurgeRanges, node int) (api.Span, api.Errno) {
	if e := CheckRanges(r); e != api.OK {
		return api.Span{}, e
	}
	if node < 0 || node > len(r.Series) {
		return api.Span{}, api.ErrMissing
	}
	g := growth{
		series: func(i int) bool { return i < node },
		earth:  func(int) bool { return false },
	}
	return spanOf(r, g, func(v []int) int { return v[node] })
}

// GapSpan returns the span of a gap.
func GapSpan(r api.SurgeRanges, gap int) (api.Span, api.Errno) {
	if e := CheckRanges(r); e != api.OK {
		return api.Span{}, e
	}
	if gap < 0 || gap >= len(r.Series) {
		return api.Span{}, api.ErrMissing
	}
	g := growth{
		series: func(i int) bool { return i != gap },
		earth:  func(i int) bool { return i >= gap }, // that of the node after the section i
	}
	return spanOf(r, g, func(v []int) int { return v[gap] - v[gap+1] })
}
