package discharge

import "buchholz/api"

// hearing is a valid grid, and valid arrivals of the sound of a source.
type hearing struct {
	api.DischargeGrid
	api.DischargeArrivals
}

func hearingOf(g api.DischargeGrid, a api.DischargeArrivals) (hearing, api.Errno) {
	if e := firstOf(CheckGrid(g), errorOf(CheckArrivals(a))); e != api.OK {
		return hearing{}, e
	}
	return hearing{DischargeGrid: g, DischargeArrivals: a}, api.OK
}

// distances returns the distance range of a cell from a position.
func distances(g api.DischargeGrid, cell, position [3]int) api.Range {
	var least, most int // the squares of the minimum and of the maximum
	for axis, index := range cell {
		lo := g.First[axis] + index*g.Step - position[axis]
		hi := lo + g.Step
		near, far := max(lo, -hi, 0), max(-lo, hi)
		least += near * near
		most += far * far
	}
	return api.Range{Lo: rootDown(least), Hi: rootUp(most)}
}

// cells yields all cells, ordered by their indexes.
func (h hearing) cells(yield func([3]int) bool) {
	for i := range h.Counts[0] {
		for j := range h.Counts[1] {
			for k := range h.Counts[2] {
				if !yield([3]int{i, j, k}) {
					return
				}
			}
		}
	}
}

// all returns the set of all sensors.
func (h hearing) all() []int {
	var set []int
	for i := range h.Sensors {
		set = append(set, i)
	}
	return set
}

// late returns by how much later a second sensor heard the sound than a first one, at most.
func (h hearing) late(first, second int) int {
	return h.Sensors[second].Times.Hi - h.Sensors[first].Times.Lo
}

// answerBy returns the answer for a cell by some sensors alone.
func (h hearing) answerBy(cell [3]int, sensors []int) int {
	var ranges [api.MaxDischargeSensors]api.Range
	for _, i := range sensors {
		ranges[i] = distances(h.DischargeGrid, cell, h.Sensors[i].Position)
	}
	// The source is farther from the second sensor of a pair by what the sound travels while it is late.
	surely := [2]bool{true, true}
	for i, j := range pairsOf(sensors) {
		late := h.late(i, j)
		travels := [2]int{h.Speed.Lo * late, h.Speed.Hi * late}
		if ranges[j].Lo-ranges[i].Hi > max(travels[0], travels[1]) {
			return api.AnswerNo
		}
		for speed, travel := range travels {
			surely[speed] = surely[speed] && ranges[j].Hi-ranges[i].Lo <= travel
		}
	}
	if surely[0] || surely[1] {
		return api.AnswerYes
	}
	return api.AnswerMaybe
}

// regionBy returns the region by some sensors alone.
func (h hearing) regionBy(sensors []int) []api.DischargeCell {
	var region []api.DischargeCell
	for cell := range h.cells {
		if answer := h.answerBy(cell, sensors); answer != api.AnswerNo {
			region = append(region, api.DischargeCell{Index: cell, Answer: answer})
		}
	}
	return region
}

// DistanceRange returns the distance range of a cell from the position of a sensor.
func DistanceRange(g api.DischargeGrid, cell, sensor [3]int) (api.Range, api.Errno) {
	if e := firstOf(CheckGrid(g), checkCell(g, cell), checkPlace(sensor)); e != api.OK {
		return api.Range{}, e
	}
	return distances(g, cell, sensor), api.OK
}

// AnswerAt returns the answer for a cell.
func AnswerAt(g api.DischargeGrid, a api.DischargeArrivals, cell [3]int) (int, api.Errno) {
	h, e := hearingOf(g, a)
	if e := firstOf(e, checkCell(g, cell)); e != api.OK {
		return 0, e
	}
	return h.answerBy(cell, h.all()), api.OK
}

// RegionOf returns the region of a grid in which the source may be.
func RegionOf(g api.DischargeGrid, a api.DischargeArrivals) ([]api.DischargeCell, api.Errno) {
	h, e := hearingOf(g, a)
	if e != api.OK {
		return nil, e
	}
	return h.regionBy(h.all()), api.OK
}

// Contradicting returns the minimum set of sensors that contradict each other.
func Contradicting(g api.DischargeGrid, a api.DischargeArrivals) ([]int, api.Errno) {
	h, e := hearingOf(g, a)
	if e != api.OK {
		return nil, e
	}
	for sensors := range setsOf(len(h.Sensors)) {
		if len(h.regionBy(sensors)) == 0 {
			return sensors, api.OK
		}
	}
	return nil, api.ErrNone
}
