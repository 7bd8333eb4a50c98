package discharge_test

import (
	"math/big"
	"slices"
	"testing"

	"buchholz/api"
	"buchholz/discharge"
)

// row returns a grid of cells in a row along the first axis, of the fifth and sixth example.
func row() api.DischargeGrid {
	return api.DischargeGrid{Step: 10, Counts: [3]int{3, 1, 1}}
}

// sensor returns a sensor.
func sensor(x, y, z int, times api.Range) api.DischargeSensor {
	return api.DischargeSensor{Position: [3]int{x, y, z}, Times: times}
}

// heard returns arrivals.
func heard(speed api.Range, sensors ...api.DischargeSensor) api.DischargeArrivals {
	return api.DischargeArrivals{Speed: speed, Sensors: sensors}
}

// sixth returns the arrivals of the sixth example.
func sixth() api.DischargeArrivals {
	return heard(span(1, 1), sensor(-100, 5, 5, span(100, 100)), sensor(130, 5, 5, span(130, 130)))
}

// wrongGrid is a grid that is not valid, and its error.
type wrongGrid struct {
	g    api.DischargeGrid
	want api.Errno
}

// badGrids returns grids that are not valid.
func badGrids() []wrongGrid {
	l := []wrongGrid{{api.DischargeGrid{}, api.ErrRange}}
	add := func(change func(*api.DischargeGrid)) {
		g := row()
		change(&g)
		l = append(l, wrongGrid{g, api.ErrRange})
	}
	for axis := range 3 {
		for _, n := range []int{10001, -10001, least, greatest} {
			add(func(g *api.DischargeGrid) { g.First[axis] = n })
		}
		for _, n := range []int{0, -1, 7, least, greatest} {
			add(func(g *api.DischargeGrid) { g.Counts[axis] = n })
		}
	}
	for _, n := range []int{0, -1, 1001, least, greatest} {
		add(func(g *api.DischargeGrid) { g.Step = n })
	}
	return l
}

// P9.4: grids at the limits, and beyond them.
func TestCheckGrid(t *testing.T) {
	for _, g := range []api.DischargeGrid{
		row(),
		{First: [3]int{-10000, -10000, -10000}, Step: 1, Counts: [3]int{1, 1, 1}},
		{First: [3]int{10000, 10000, 10000}, Step: 1000, Counts: [3]int{6, 6, 6}},
	} {
		if e := discharge.CheckGrid(g); e != api.OK {
			t.Error(g, e)
		}
	}
	for _, x := range badGrids() {
		if e := discharge.CheckGrid(x.g); e != x.want {
			t.Error(x, e)
		}
	}
}

// wrongArrivals is arrivals that are not valid, the index of the wrong sensor, and the error.
type wrongArrivals struct {
	a     api.DischargeArrivals
	index int
	want  api.Errno
}

// badArrivals returns arrivals that are not valid.
func badArrivals() []wrongArrivals {
	s, one := sensor(1, 2, 3, span(4, 5)), span(1, 1)
	bad := sensor(10001, 0, 0, span(1, 0))
	l := []wrongArrivals{
		{api.DischargeArrivals{}, 0, api.ErrRange},
		{heard(span(0, 1), s, s), 0, api.ErrRange},
		{heard(span(1, 0), s, s), 0, api.ErrRange}, // before the order
		{heard(span(-1, 1), s, s), 0, api.ErrRange},
		{heard(span(1, 10001), s, s), 0, api.ErrRange},
		{heard(span(10001, 1), s, s), 0, api.ErrRange},
		{heard(span(least, greatest), s, s), 0, api.ErrRange},
		{heard(span(2, 1), bad, bad), 0, api.ErrOrder},
		{heard(span(10000, 1)), 0, api.ErrOrder},
		{heard(one), 0, api.ErrShape},
		{heard(one, s), 0, api.ErrShape},
		{heard(one, bad), 0, api.ErrShape},
		{heard(one, s, s, s, s, s, s), 0, api.ErrLarge},
		{heard(one, bad, s, s, s, s, s), 0, api.ErrLarge},
		{heard(one, s, s, s, sensor(0, 0, 0, span(1, 0)), bad), 3, api.ErrOrder}, // sensor by sensor
		{heard(one, s, bad), 1, api.ErrRange},                                    // before the order
		{heard(one, s, sensor(0, 0, 0, span(1000000, 0))), 1, api.ErrOrder},
		{heard(one, s, sensor(0, 0, 0, span(1, -1))), 1, api.ErrRange},
	}
	for _, times := range []api.Range{span(-1, 5), span(0, 1000001), span(1000001, 1000001), span(-1, -1), span(least, 1), span(0, greatest)} {
		l = append(l, wrongArrivals{heard(one, s, s, s, s, sensor(0, 0, 0, times)), 4, api.ErrRange})
	}
	for axis := range 3 {
		for _, n := range []int{10001, -10001, least, greatest} {
			wrong := s
			wrong.Position[axis] = n
			l = append(l, wrongArrivals{heard(one, wrong, s), 0, api.ErrRange}, wrongArrivals{heard(one, s, s, wrong, bad), 2, api.ErrRange})
		}
	}
	return l
}

// P9.4: arrivals at the limits, and beyond them.
func TestCheckArrivals(t *testing.T) {
	far, near := sensor(10000, -10000, 10000, span(0, 1000000)), sensor(-10000, 10000, -10000, span(1000000, 1000000))
	for _, a := range []api.DischargeArrivals{
		sixth(),
		heard(span(1, 10000), far, near),
		heard(span(10000, 10000), near, near, near, far, sensor(0, 0, 0, span(0, 0))),
	} {
		if i, e := discharge.CheckArrivals(a); i != 0 || e != api.OK {
			t.Error(a, i, e)
		}
	}
	for _, x := range badArrivals() {
		if i, e := discharge.CheckArrivals(x.a); i != x.index || e != x.want {
			t.Error(x, i, e)
		}
	}
}

// P9.4: the fifth example, and sensors within cells, at their sides and corners, and far away.
func TestDistanceRange(t *testing.T) {
	most := api.DischargeGrid{First: [3]int{10000, 10000, 10000}, Step: 1000, Counts: [3]int{6, 6, 6}}
	for _, x := range []struct {
		g            api.DischargeGrid
		cell, sensor [3]int
		want         api.Range
	}{
		{row(), [3]int{1, 0, 0}, [3]int{0, 0, 0}, span(10, 25)},
		{row(), [3]int{0, 0, 0}, [3]int{-100, 5, 5}, span(100, 111)},
		{row(), [3]int{0, 0, 0}, [3]int{130, 5, 5}, span(120, 131)},
		{row(), [3]int{2, 0, 0}, [3]int{25, 5, 5}, span(0, 9)}, // within the cell: 8.66 to its corners
		{row(), [3]int{2, 0, 0}, [3]int{21, 5, 5}, span(0, 12)},
		{row(), [3]int{2, 0, 0}, [3]int{20, 5, 5}, span(0, 13)},
		{row(), [3]int{1, 0, 0}, [3]int{20, 5, 5}, span(0, 13)}, // the side of both
		{row(), [3]int{0, 0, 0}, [3]int{-1, -1, -1}, span(1, 20)},
		{row(), [3]int{0, 0, 0}, [3]int{11, 12, 12}, span(3, 21)}, // exactly 3, and 20.2
		{row(), [3]int{0, 0, 0}, [3]int{-2, -1, 0}, span(2, 20)},  // 2.2, and 19.2
		{most, [3]int{5, 5, 5}, [3]int{-10000, -10000, -10000}, span(43301, 45034)},
		{api.DischargeGrid{Step: 1, Counts: [3]int{1, 1, 1}}, [3]int{}, [3]int{}, span(0, 2)},
	} {
		if d, e := discharge.DistanceRange(x.g, x.cell, x.sensor); d != x.want || e != api.OK {
			t.Error(x, d, e)
		}
	}
}

// nearAndFar returns the minimum and the maximum of the squares of the differences of whole numbers of a range from another one.
func nearAndFar(lo, hi, from int) (int, int) {
	near, far := (lo-from)*(lo-from), (lo-from)*(lo-from)
	for n := lo; n <= hi; n++ {
		square := (n - from) * (n - from)
		near, far = min(near, square), max(far, square)
	}
	return near, far
}

// rootOf returns a square root, rounded down.
func rootOf(n int) int {
	return int(new(big.Int).Sqrt(big.NewInt(int64(n))).Int64())
}

// P9.4: distance ranges, by looking at all whole coordinates.
func TestDistanceRangeByDefinition(t *testing.T) {
	r := numbers(7)
	for range 2000 {
		g := r.grid()
		g.Step = r.oneOf(g.Step, 1000)
		cell := [3]int{r.below(g.Counts[0]), r.below(g.Counts[1]), r.below(g.Counts[2])}
		position := r.place(r.oneOf(0, 9, 60, 10000))
		least, most := 0, 0
		for axis := range 3 {
			lo := g.First[axis] + cell[axis]*g.Step
			near, far := nearAndFar(lo, lo+g.Step, position[axis])
			least, most = least+near, most+far
		}
		want := span(rootOf(least), rootOf(most))
		if want.Hi*want.Hi < most {
			want.Hi++
		}
		if d, e := discharge.DistanceRange(g, cell, position); d != want || e != api.OK {
			t.Fatal(g, cell, position, d, e, want)
		}
	}
}

// badCells returns cells that a grid does not have.
func badCells(g api.DischargeGrid) [][3]int {
	var l [][3]int
	for axis := range 3 {
		for _, index := range []int{-1, g.Counts[axis], 100, least, greatest} {
			var cell [3]int
			cell[axis] = index
			l = append(l, cell)
		}
	}
	return l
}

// P9.4: the errors of the grid, the cell, and the sensor's position.
func TestDistanceRangeErrors(t *testing.T) {
	bad := func(g api.DischargeGrid, cell, position [3]int, want api.Errno) {
		t.Helper()
		if d, e := discharge.DistanceRange(g, cell, position); d != (api.Range{}) || e != want {
			t.Error(g, cell, position, d, e, want)
		}
	}
	for _, x := range badGrids() {
		bad(x.g, [3]int{}, [3]int{}, x.want)
		bad(x.g, [3]int{-1, 0, 0}, [3]int{10001, 0, 0}, x.want)
	}
	for _, cell := range badCells(row()) {
		bad(row(), cell, [3]int{}, api.ErrMissing)
		bad(row(), cell, [3]int{10001, 0, 0}, api.ErrMissing)
	}
	for axis := range 3 {
		for _, n := range []int{10001, -10001, least, greatest} {
			var position [3]int
			position[axis] = n
			bad(row(), [3]int{}, position, api.ErrRange)
		}
	}
}

// P9.4: the sixth example, and arrivals with two speeds.
func TestAnswerAt(t *testing.T) {
	near, far := [3]int{0, 0, 0}, [3]int{2, 0, 0}
	at := func(speed api.Range, times, others api.Range) api.DischargeArrivals {
		return heard(speed, sensor(-100, 5, 5, times), sensor(130, 5, 5, others))
	}
	for _, x := range []struct {
		a    api.DischargeArrivals
		cell [3]int
		want int
	}{
		{sixth(), near, api.AnswerMaybe},
		{sixth(), far, api.AnswerNo},
		{at(span(1, 1), span(100, 100), span(109, 109)), near, api.AnswerMaybe}, // 9 is at most 9, and -31 at most -9
		{at(span(1, 1), span(100, 100), span(108, 108)), near, api.AnswerNo},
		{at(span(1, 1), span(100, 100), span(131, 131)), near, api.AnswerMaybe}, // -31 is at most -31
		{at(span(1, 1), span(100, 100), span(132, 132)), near, api.AnswerNo},
		{at(span(1, 1), span(109, 131), span(140, 140)), near, api.AnswerYes}, // 31 is at most 31, and -9 at most -9
		{at(span(1, 1), span(110, 131), span(140, 140)), near, api.AnswerMaybe},
		{at(span(1, 1), span(109, 130), span(140, 140)), near, api.AnswerMaybe},
		{at(span(1, 1), span(0, 100), span(60, 131)), near, api.AnswerYes},
		{at(span(2, 2), span(100, 100), span(104, 104)), near, api.AnswerNo},    // 9 is greater than 8
		{at(span(1, 2), span(100, 100), span(104, 104)), near, api.AnswerNo},    // also than 4
		{at(span(2, 3), span(100, 100), span(104, 104)), near, api.AnswerMaybe}, // not than 12
		{at(span(1, 2), span(116, 132), span(116, 132)), near, api.AnswerYes},   // late by 16 for both: the speed 2 is enough
		{at(span(1, 1), span(116, 132), span(116, 132)), near, api.AnswerMaybe},
		{at(span(1, 1), span(150, 150), span(119, 119)), far, api.AnswerMaybe}, // 100 - 131 is not greater than -31
		{at(span(2, 2), span(150, 150), span(119, 119)), far, api.AnswerNo},
		{at(span(1, 2), span(150, 150), span(119, 119)), far, api.AnswerMaybe}, // greater than -62, but not than -31
		{at(span(1, 2), span(150, 150), span(118, 118)), far, api.AnswerNo},
		{at(span(1, 1), span(150, 150), span(150, 150)), [3]int{1, 0, 0}, api.AnswerMaybe}, // equally far
	} {
		if n, e := discharge.AnswerAt(row(), x.a, x.cell); n != x.want || e != api.OK {
			t.Error(x, n, e)
		}
	}
}

// P9.4: one of both speeds must do for all pairs. The cell's distances are 0 to 2 from the one sensor, and 99 to 101 from the other one.
func TestOneSpeedForAllPairs(t *testing.T) {
	g := api.DischargeGrid{Step: 1, Counts: [3]int{1, 1, 1}}
	for _, x := range []struct {
		speed, times api.Range
		want         int
	}{
		{span(1, 2), span(99, 103), api.AnswerYes}, // by the speed 1: 101 is at most 200 - 99, -97 at most 103 - 200
		{span(1, 1), span(99, 103), api.AnswerYes},
		{span(2, 2), span(99, 103), api.AnswerNo},
		{span(1, 2), span(149, 152), api.AnswerYes}, // by the speed 2: 101 is at most 102, -97 at most -96
		{span(2, 2), span(149, 152), api.AnswerYes},
		{span(1, 1), span(149, 152), api.AnswerNo},
		{span(1, 2), span(100, 151), api.AnswerMaybe}, // the one pair by the speed 2 alone, the other one by the speed 1 alone
		{span(1, 3), span(133, 168), api.AnswerYes},
		{span(1, 3), span(133, 167), api.AnswerMaybe}, // the speed 2 in between would do, but it is not one of both
		{span(2, 3), span(133, 167), api.AnswerYes},
	} {
		a := heard(x.speed, sensor(0, 0, 0, x.times), sensor(100, 0, 0, span(200, 200)))
		if n, e := discharge.AnswerAt(g, a, [3]int{}); n != x.want || e != api.OK {
			t.Error(x, n, e)
		}
	}
}

// all returns the indexes of all sensors.
func all(a api.DischargeArrivals) []int {
	var set []int
	for i := range a.Sensors {
		set = append(set, i)
	}
	return set
}

// answerBy returns the answer for a cell by some sensors, by the words of its definition.
func answerBy(g api.DischargeGrid, a api.DischargeArrivals, cell [3]int, set []int) int {
	ranges := map[int]api.Range{}
	for _, i := range set {
		ranges[i], _ = discharge.DistanceRange(g, cell, a.Sensors[i].Position)
	}
	late := func(i, j int) int { return a.Sensors[j].Times.Hi - a.Sensors[i].Times.Lo }
	pairs := func(is func(i, j int) bool) int {
		count := 0
		for _, i := range set {
			for _, j := range set {
				if i != j && is(i, j) {
					count++
				}
			}
		}
		return count
	}
	if pairs(func(i, j int) bool {
		least := ranges[j].Lo - ranges[i].Hi
		return least > a.Speed.Lo*late(i, j) && least > a.Speed.Hi*late(i, j)
	}) > 0 {
		return api.AnswerNo
	}
	for _, speed := range []int{a.Speed.Lo, a.Speed.Hi} {
		if pairs(func(i, j int) bool { return ranges[j].Hi-ranges[i].Lo > speed*late(i, j) }) == 0 {
			return api.AnswerYes
		}
	}
	return api.AnswerMaybe
}

// regionBy returns the region by some sensors, by the words of its definition.
func regionBy(g api.DischargeGrid, a api.DischargeArrivals, set []int) []api.DischargeCell {
	var region []api.DischargeCell
	for i := range g.Counts[0] {
		for j := range g.Counts[1] {
			for k := range g.Counts[2] {
				if answer := answerBy(g, a, [3]int{i, j, k}, set); answer != api.AnswerNo {
					region = append(region, api.DischargeCell{Index: [3]int{i, j, k}, Answer: answer})
				}
			}
		}
	}
	return region
}

// P9.4: the errors of the grid and the arrivals, then that of the cell; P9.5: the same errors without a cell.
func TestSourceErrors(t *testing.T) {
	bad := func(g api.DischargeGrid, a api.DischargeArrivals, cell [3]int, want api.Errno) {
		t.Helper()
		if n, e := discharge.AnswerAt(g, a, cell); n != 0 || e != want {
			t.Error(g, a, cell, n, e, want)
		}
		if want == api.ErrMissing {
			return
		}
		if l, e := discharge.RegionOf(g, a); len(l) != 0 || e != want {
			t.Error(g, a, l, e, want)
		}
		if l, e := discharge.Contradicting(g, a); len(l) != 0 || e != want {
			t.Error(g, a, l, e, want)
		}
	}
	for _, x := range badGrids() {
		bad(x.g, sixth(), [3]int{}, x.want)
		bad(x.g, api.DischargeArrivals{Speed: span(2, 1)}, [3]int{-1, 0, 0}, x.want)
	}
	for _, x := range badArrivals() {
		bad(row(), x.a, [3]int{}, x.want)
		bad(row(), x.a, [3]int{-1, 0, 0}, x.want)
	}
	for _, cell := range badCells(row()) {
		bad(row(), sixth(), cell, api.ErrMissing)
	}
}

// P9.5: the region of the sixth example, and one with all answers in a grid with three axes.
func TestRegionOf(t *testing.T) {
	l, e := discharge.RegionOf(row(), sixth())
	if want := []api.DischargeCell{{Index: [3]int{0, 0, 0}, Answer: api.AnswerMaybe}}; e != api.OK || !slices.Equal(l, want) {
		t.Error(l, e)
	}
	g := api.DischargeGrid{First: [3]int{-2, -2, -2}, Step: 2, Counts: [3]int{2, 2, 2}}
	late := heard(span(5, 5), sensor(0, 0, 0, span(0, 9)), sensor(0, 0, 0, span(0, 9)))
	l, e = discharge.RegionOf(g, late)
	var want []api.DischargeCell
	for i := range 8 {
		want = append(want, api.DischargeCell{Index: [3]int{i / 4, i / 2 % 2, i % 2}, Answer: api.AnswerYes})
	}
	if e != api.OK || !slices.Equal(l, want) {
		t.Error(l, e)
	}
}

// P9.4 and P9.5: answers and regions, by their definition.
func TestRegionsByDefinition(t *testing.T) {
	r := numbers(8)
	seen := map[int]int{}
	for i := range 2000 {
		g, a := r.grid(), r.arrivals()
		if i%2 == 0 {
			g, a = r.confused()
		}
		want := regionBy(g, a, all(a))
		if l, e := discharge.RegionOf(g, a); e != api.OK || !slices.Equal(l, want) {
			t.Fatal(g, a, l, e, want)
		}
		cell := [3]int{r.below(g.Counts[0]), r.below(g.Counts[1]), r.below(g.Counts[2])}
		n, e := discharge.AnswerAt(g, a, cell)
		if n != answerBy(g, a, cell, all(a)) || e != api.OK {
			t.Fatal(g, a, cell, n, e)
		}
		seen[n]++
	}
	if len(seen) != 3 || min(seen[0], seen[1], seen[2]) < 50 {
		t.Error(seen)
	}
}

// soundOf returns arrivals of the sound that each sensor heard from a source of its own, with times that are wider by at most so much.
func (r *numbers) soundOf(source func() [3]int, speed, wider int) api.DischargeArrivals {
	a := api.DischargeArrivals{Speed: span(r.from(max(1, speed-2), speed), r.from(speed, speed+2))}
	begin, room := r.from(100, 1000), r.oneOf(10, 100, 1000, 10000)
	for range r.from(2, 5) {
		from, position, square := source(), r.place(room), 0
		for axis := range 3 {
			square += (position[axis] - from[axis]) * (position[axis] - from[axis])
		}
		root := rootOf(square)
		times := span(begin+root/speed, begin+root/speed)
		if root*root < square || root%speed > 0 {
			times.Hi++ // the true time lies in between
		}
		times = span(times.Lo-r.from(0, wider), times.Hi+r.from(0, wider))
		a.Sensors = append(a.Sensors, api.DischargeSensor{Position: position, Times: times})
	}
	return a
}

// pointOf returns a whole point of a grid, which is often on sides of cells.
func (r *numbers) pointOf(g api.DischargeGrid) [3]int {
	var point [3]int
	for axis := range 3 {
		point[axis] = g.First[axis] + r.from(0, g.Counts[axis]*g.Step)
		if r.below(3) == 0 {
			point[axis] = g.First[axis] + r.from(0, g.Counts[axis])*g.Step
		}
	}
	return point
}

// confused returns a grid, and arrivals of the sound of one of its points, or of several ones, also around it.
func (r *numbers) confused() (api.DischargeGrid, api.DischargeArrivals) {
	g := r.grid()
	g.Step, g.Counts = r.oneOf(30, 100), [3]int{r.from(3, 6), r.from(3, 6), 1}
	wide := g
	for axis := range 2 {
		wide.First[axis] -= g.Step
		wide.Counts[axis] += 2
	}
	one, rarely := r.pointOf(g), r.oneOf(1, 2, 9)
	source := func() [3]int {
		if r.below(rarely) == 0 {
			return one
		}
		return r.pointOf(wide)
	}
	return g, r.soundOf(source, r.oneOf(1, 2, 3), r.oneOf(0, 0, 1, 9))
}

// contradictingBy returns the first one of the smallest sets of sensors whose region is empty, or nothing.
func contradictingBy(g api.DischargeGrid, a api.DischargeArrivals) []int {
	for _, set := range setsBy(len(a.Sensors)) {
		if len(regionBy(g, a, set)) == 0 {
			return set
		}
	}
	return nil
}

// P9.5: sensors that contradict each other, and those that do not.
func TestContradicting(t *testing.T) {
	g := api.DischargeGrid{Step: 10, Counts: [3]int{1, 1, 1}}
	s := func(at int) api.DischargeSensor { return sensor(0, 0, 0, span(at, at)) }
	for _, x := range []struct {
		a    api.DischargeArrivals
		want []int
	}{
		{sixth(), nil},
		{heard(span(1, 1), s(100), s(200)), []int{0, 1}},
		{heard(span(1, 1), s(100), s(110)), nil},
		{heard(span(1, 1), s(100), s(110), s(90)), []int{1, 2}},
		{heard(span(1, 1), s(100), s(110), s(90), s(80), s(200)), []int{0, 3}}, // of several pairs the first one
		{heard(span(1, 1), s(100), s(100), s(100), s(100), s(200)), []int{0, 4}},
	} {
		want := api.OK
		if x.want == nil {
			want = api.ErrNone
		}
		if l, e := discharge.Contradicting(g, x.a); e != want || !slices.Equal(l, x.want) {
			t.Error(x, l, e)
		}
	}
}

// P9.5 and P9.13: the minimum set, by looking at all sets: its region is empty, but not without any one of the sensors.
func TestContradictingByDefinition(t *testing.T) {
	r := numbers(9)
	sizes := map[int]int{}
	for range 1500 {
		g, a := r.confused()
		set := contradictingBy(g, a)
		want := api.OK
		if set == nil {
			want = api.ErrNone
		}
		got, e := discharge.Contradicting(g, a)
		if e != want || !slices.Equal(got, set) {
			t.Fatal(g, a, got, e, set)
		}
		sizes[len(got)]++
		alone := a
		for skip := -1; skip < len(got) && len(got) > 0; skip++ {
			alone.Sensors = nil
			for place, i := range got {
				if place != skip {
					alone.Sensors = append(alone.Sensors, a.Sensors[i])
				}
			}
			if len(alone.Sensors) < 2 {
				continue // one sensor alone never contradicts
			}
			if l, e := discharge.RegionOf(g, alone); e != api.OK || (len(l) == 0) != (skip == -1) {
				t.Fatal(g, a, got, skip, l, e)
			}
		}
	}
	if sizes[0] < 100 || sizes[2] < 100 || sizes[3] < 20 {
		t.Error(sizes)
	}
}

// P9.12: the cells in which a source is are in the region.
func TestSourcesAreInTheRegion(t *testing.T) {
	r := numbers(10)
	dropped := 0
	for range 2000 {
		g := r.grid()
		g.Step = r.oneOf(g.Step, 100, 1000)
		source := r.pointOf(g)
		a := r.soundOf(func() [3]int { return source }, r.oneOf(1, 2, 3, 7), r.oneOf(0, 0, 1, 20))
		region, e := discharge.RegionOf(g, a)
		isOK(t, e)
		dropped += g.Counts[0]*g.Counts[1]*g.Counts[2] - len(region)
		for cell := range cellsWith(g, source) {
			isCell := func(c api.DischargeCell) bool { return c.Index == cell }
			if !slices.ContainsFunc(region, isCell) {
				t.Fatal(g, a, source, cell, region)
			}
		}
	}
	if dropped < 2000 {
		t.Error(dropped)
	}
}

// cellsWith yields the cells of a grid that have a point.
func cellsWith(g api.DischargeGrid, point [3]int) func(func([3]int) bool) {
	return func(yield func([3]int) bool) {
		for i := range g.Counts[0] * g.Counts[1] * g.Counts[2] {
			cell := [3]int{i / g.Counts[2] / g.Counts[1], i / g.Counts[2] % g.Counts[1], i % g.Counts[2]}
			has := true
			for axis := range 3 {
				lo := g.First[axis] + cell[axis]*g.Step
				has = has && lo <= point[axis] && point[axis] <= lo+g.Step
			}
			if has && !yield(cell) {
				return
			}
		}
	}
}

// P9.12: wider times, and a wider range of speeds, take no cell from the region.
func TestWiderArrivals(t *testing.T) {
	r := numbers(11)
	added := 0
	for range 1500 {
		g, a := r.grid(), r.arrivals()
		wider := a
		wider.Sensors = slices.Clone(a.Sensors)
		if r.below(2) == 0 {
			wider.Speed = span(r.from(1, a.Speed.Lo), r.from(a.Speed.Hi, 20))
		}
		for i := range wider.Sensors {
			times := &wider.Sensors[i].Times
			*times = span(r.from(max(0, times.Lo-3), times.Lo), r.from(times.Hi, times.Hi+3))
		}
		region, e := discharge.RegionOf(g, a)
		isOK(t, e)
		more, e := discharge.RegionOf(g, wider)
		isOK(t, e)
		for _, c := range region {
			isCell := func(d api.DischargeCell) bool { return d.Index == c.Index }
			if !slices.ContainsFunc(more, isCell) {
				t.Fatal(g, a, wider, c)
			}
		}
		added += len(more) - len(region)
	}
	if added < 500 {
		t.Error(added)
	}
}
