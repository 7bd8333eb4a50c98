package surge_test

import (
	"reflect"
	"slices"
	"testing"

	"buchholz/api"
	"buchholz/surge"
)

// R3: no function changes a ladder, or a distribution.
func TestLaddersAreKept(t *testing.T) {
	l := ladder(t, earthed)
	u := fracs(1, 1, 2, 5, 0, 1)
	paths := []api.SurgePath{path("b", 0, 1, 60, 10), path("a", 1, 2, 20, 10)}
	surge.CheckLadder(l)
	surge.InitialOf(l)
	surge.CheckInitial(l, u)
	surge.FinalOf(l)
	surge.WorstGap(l)
	surge.EnvelopeOf(l)
	surge.FormatLadder(l)
	surge.RankPaths(1000, u, paths)
	if !reflect.DeepEqual(l, ladder(t, earthed)) || !reflect.DeepEqual(u, fracs(1, 1, 2, 5, 0, 1)) {
		t.Error(l, u)
	}
	if !reflect.DeepEqual(paths, []api.SurgePath{path("b", 0, 1, 60, 10), path("a", 1, 2, 20, 10)}) {
		t.Error(paths)
	}
	r := third()
	surge.CheckRanges(r)
	surge.NodeSpan(r, 1)
	surge.GapSpan(r, 1)
	if !reflect.DeepEqual(r, third()) {
		t.Error(r)
	}
}

// R3: no function changes an impulse.
func TestImpulsesAreKept(t *testing.T) {
	x := fourth()
	x.Points = slices.Grow(x.Points, 20)
	spare := x.Points[:cap(x.Points)]
	surge.CheckImpulse(x)
	surge.Chopped(x, 26, 3)
	surge.Chopped(x, 200, 3)
	surge.ValueAt(x, 26)
	surge.SteepestOf(x)
	if !reflect.DeepEqual(x, fourth()) {
		t.Error(x)
	}
	for _, p := range spare[len(x.Points):] {
		if p != (api.SurgePoint{}) {
			t.Error(spare)
		}
	}
}

// R3: no function changes a line, a state, or sources.
func TestLinesAreKept(t *testing.T) {
	l, s, sources := line(true, 1, 3), state([]int{8, 0}, []int{0, 3}), []int{5, 0, -7}
	surge.CheckLine(l)
	surge.Begin(l)
	surge.Step(l, s, 1)
	surge.EnergyOf(l, s)
	surge.PeaksOf(l, sources)
	if !reflect.DeepEqual(l, line(true, 1, 3)) || !reflect.DeepEqual(s, state([]int{8, 0}, []int{0, 3})) || !slices.Equal(sources, []int{5, 0, -7}) {
		t.Error(l, s, sources)
	}
}

// R3: a change of a result changes neither arguments nor later results, nor another part of it.
func TestResultsAreNew(t *testing.T) {
	l := ladder(t, open)
	u, _ := surge.InitialOf(l)
	end, _ := surge.FinalOf(l)
	envelope, _ := surge.EnvelopeOf(l)
	u[0], end[0], envelope[0] = frac(9, 1), frac(9, 1), frac(9, 1)
	parsed := ladder(t, open)
	parsed.Series[0], parsed.Earth[0], parsed.Turns[0] = 9, 8, 7
	if again := ladder(t, open); !reflect.DeepEqual(again, l) || !reflect.DeepEqual(parsed.Series, []int{9, 2}) {
		t.Error(again, parsed)
	}
	if again, _ := surge.InitialOf(l); !reflect.DeepEqual(again, fracs(1, 1, 2, 3, 2, 3)) {
		t.Error(again)
	}
	if again, _ := surge.FinalOf(l); !reflect.DeepEqual(again, fracs(1, 1, 1, 1, 1, 1)) {
		t.Error(again)
	}
	if again, _ := surge.EnvelopeOf(l); !reflect.DeepEqual(again, fracs(1, 1, 4, 3, 4, 3)) {
		t.Error(again)
	}
	x := fourth()
	c, _ := surge.Chopped(x, 26, 3)
	c.Points[0].Voltage = 9
	full, _ := surge.FullImpulse(100, 2, 50)
	full.Points[0].Voltage = 9
	if again, _ := surge.FullImpulse(100, 2, 50); !reflect.DeepEqual(x, fourth()) || !reflect.DeepEqual(again, x) {
		t.Error(x, again)
	}
}

// R3: the waves of a state, the voltages of a step and the parts of peaks share no memory.
func TestStatesAreNew(t *testing.T) {
	l := line(true, 1, 3)
	s, _ := surge.Begin(l)
	_ = append(s.Forward, 9)
	s.Forward[0], s.Forward[1] = 8, 0
	if !slices.Equal(s.Back, []int{0, 0}) {
		t.Error(s)
	}
	next, voltages, _ := surge.Step(l, s, 0)
	_ = append(append(next.Forward, 9, 9), 9)
	next.Forward[0], voltages[0] = 7, 6
	if !slices.Equal(next.Back, []int{-4, 0}) || !reflect.DeepEqual(s, state([]int{8, 0}, []int{0, 0})) {
		t.Error(next, s)
	}
	if again, voltages, _ := surge.Step(l, s, 0); !reflect.DeepEqual(again, state([]int{0, 4}, []int{-4, 0})) || !slices.Equal(voltages, []int{0, 4, 0}) {
		t.Error(again, voltages)
	}
	sources := []int{5, 0, 0}
	p, _ := surge.PeaksOf(l, sources)
	_ = append(p.Nodes, 9)
	p.Nodes[1] = 9
	if again, _ := surge.PeaksOf(l, sources); !slices.Equal(sources, []int{5, 0, 0}) || !slices.Equal(again.Gaps, p.Gaps) || again.Nodes[1] == 9 {
		t.Error(sources, again, p)
	}
}

// R5: nil slices and empty ones are the same.
func TestEmptyIsNil(t *testing.T) {
	if l, e := surge.RankPaths(1, fracs(1, 1, 0, 1), []api.SurgePath{}); len(l) != 0 || e != api.OK {
		t.Error(l, e)
	}
	p, e := surge.PeaksOf(line(false, 1), []int{})
	q, f := surge.PeaksOf(line(false, 1), nil)
	if e != api.OK || f != api.OK || !reflect.DeepEqual(p, q) {
		t.Error(p, e, q, f)
	}
	if s := surge.FormatLadder(api.SurgeLadder{Series: []int{}, Earth: nil, Turns: []int{}}); s != surge.FormatLadder(api.SurgeLadder{}) {
		t.Error(s)
	}
}
