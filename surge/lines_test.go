package surge_test

import (
	"math/big"
	"reflect"
	"slices"
	"testing"

	"buchholz/api"
	"buchholz/surge"
)

func state(forward, back []int) api.SurgeState {
	return api.SurgeState{Forward: forward, Back: back}
}

// quotient returns num/den rounded towards 0.
func quotient(num, den int) int {
	return int(new(big.Int).Quo(big.NewInt(int64(num)), big.NewInt(int64(den))).Int64())
}

// stepBySum returns the state after a step, and the voltages, node by node.
func stepBySum(l api.SurgeLine, s api.SurgeState, source int) (api.SurgeState, []int) {
	n := len(l.Admittances)
	next := state(make([]int, n), make([]int, n))
	voltages := make([]int, n+1)
	for node := range voltages {
		switch node {
		case 0:
			voltages[0] = source
			next.Forward[0] = source - s.Back[0]
		case n:
			wave := s.Forward[n-1]
			next.Back[n-1], voltages[n] = wave, 2*wave
			if l.Earthed {
				next.Back[n-1], voltages[n] = -wave, 0
			}
		default:
			left, right := l.Admittances[node-1], l.Admittances[node]
			a, b := s.Forward[node-1], s.Back[node]
			// twice the current over both admittances is the voltage, and each wave the voltage minus the one that arrives
			current := 2 * (a*left + b*right)
			voltages[node] = quotient(current, left+right)
			next.Back[node-1] = quotient(current-a*(left+right), left+right)
			next.Forward[node] = quotient(current-b*(left+right), left+right)
		}
	}
	return next, voltages
}

// isBroken returns whether a wave is too large.
func isBroken(s api.SurgeState) bool {
	for _, wave := range append(slices.Clone(s.Forward), s.Back...) {
		if max(wave, -wave) > api.MaxSurgeWave {
			return true
		}
	}
	return false
}

// opposite returns the opposite numbers.
func opposite(l []int) []int {
	r := make([]int, len(l))
	for i, n := range l {
		r[i] = -n
	}
	return r
}

// P4.5: lines at their limits, and their states without waves.
func TestBegin(t *testing.T) {
	for _, l := range []api.SurgeLine{
		line(false, 1),
		line(true, 20),
		line(true, 1, 20, 1, 20, 1, 20, 1, 20, 1, 20),
	} {
		n := len(l.Admittances)
		if e := surge.CheckLine(l); e != api.OK {
			t.Error(l, e)
		}
		if s, e := surge.Begin(l); e != api.OK || !reflect.DeepEqual(s, state(make([]int, n), make([]int, n))) {
			t.Error(l, s, e)
		}
	}
	for _, x := range badLines() {
		if e := surge.CheckLine(x.line); e != x.want {
			t.Error(x, e)
		}
		if s, e := surge.Begin(x.line); e != x.want || len(s.Forward)+len(s.Back) != 0 {
			t.Error(x, s, e)
		}
	}
}

// P4.5: steps.
func TestStep(t *testing.T) {
	for _, x := range []struct {
		l        api.SurgeLine
		s        api.SurgeState
		source   int
		next     api.SurgeState
		voltages []int
	}{
		{line(true, 1, 3), state([]int{8, 0}, []int{0, 0}), 0, state([]int{0, 4}, []int{-4, 0}), []int{0, 4, 0}},
		{line(true, 1, 3), state([]int{-8, 0}, []int{0, 0}), 0, state([]int{0, -4}, []int{4, 0}), []int{0, -4, 0}},
		{line(true, 1, 3), state([]int{0, 5}, []int{7, 8}), 9, state([]int{2, 4}, []int{12, -5}), []int{9, 12, 0}},
		{line(false, 1, 3), state([]int{0, 5}, []int{7, 8}), 9, state([]int{2, 4}, []int{12, 5}), []int{9, 12, 10}},
		{line(false, 5), state([]int{3}, []int{4}), 0, state([]int{-4}, []int{3}), []int{0, 6}}, // thrown back at both ends
		{line(true, 5), state([]int{3}, []int{4}), 0, state([]int{-4}, []int{-3}), []int{0, 0}},
		{line(false, 1, 2), state([]int{1, 0}, []int{0, 0}), 0, state([]int{0, 0}, []int{0, 0}), []int{0, 0, 0}}, // -1/3, 2/3 and 2/3
		{line(false, 1, 2), state([]int{-1, 0}, []int{0, 0}), 0, state([]int{0, 0}, []int{0, 0}), []int{0, 0, 0}},
		{line(false, 2, 1), state([]int{5, 0}, []int{0, 0}), 0, state([]int{0, 6}, []int{1, 0}), []int{0, 6, 0}},
		{line(false, 2, 1), state([]int{-5, 0}, []int{0, 0}), 0, state([]int{0, -6}, []int{-1, 0}), []int{0, -6, 0}},
		{line(false, 1), state([]int{1000000}, []int{0}), 1000000, state([]int{1000000}, []int{1000000}), []int{1000000, 2000000}},
		{line(true, 1), state([]int{-1000000}, []int{1000000}), 0, state([]int{-1000000}, []int{1000000}), []int{0, 0}},
		{line(false, 1, 1, 2, 1), state([]int{1, 2, 3, 4}, []int{5, 6, 7, 8}), 10, state([]int{5, 1, 3, 1}, []int{6, 8, 6, 4}), []int{10, 7, 10, 9, 8}},
	} {
		next, voltages, e := surge.Step(x.l, x.s, x.source)
		if e != api.OK || !reflect.DeepEqual(next, x.next) || !reflect.DeepEqual(voltages, x.voltages) {
			t.Error(x, next, voltages, e)
		}
	}
}

// P4.5: the errors of steps and energies.
func TestStepErrors(t *testing.T) {
	refused := func(l api.SurgeLine, s api.SurgeState, source int, want api.Errno) {
		t.Helper()
		next, voltages, e := surge.Step(l, s, source)
		if e != want || len(next.Forward)+len(next.Back)+len(voltages) != 0 {
			t.Error(l, s, source, next, voltages, e)
		}
	}
	for _, x := range badLines() {
		refused(x.line, api.SurgeState{Forward: []int{least}}, least, x.want)
		if n, e := surge.EnergyOf(x.line, api.SurgeState{Forward: []int{least}}); n != 0 || e != x.want {
			t.Error(x, n, e)
		}
	}
	two := line(true, 1, 3)
	for _, x := range badStates() {
		refused(two, x.state, least, x.want)
		if n, e := surge.EnergyOf(two, x.state); n != 0 || e != x.want {
			t.Error(x, n, e)
		}
	}
	silent := state([]int{0, 0}, []int{0, 0})
	for _, source := range []int{1000001, -1000001, least, greatest} {
		refused(two, silent, source, api.ErrRange)
	}
	refused(two, state([]int{0, 0}, []int{1, 0}), -1000000, api.ErrBreak)
	refused(two, state([]int{0, 0}, []int{-1, 0}), 1000000, api.ErrBreak)
	refused(two, state([]int{0, 0}, []int{0, 666668}), 0, api.ErrBreak)                              // Back 1000002
	refused(line(true, 3, 1), state([]int{-666668, 0}, []int{0, 0}), 0, api.ErrBreak)                // Forward -1000002
	refused(line(true, 1, 1, 20), state([]int{0, 0, 0}, []int{0, 0, 1000000}), 0, api.ErrBreak)      // in the middle
	refused(line(false, 20, 1), state([]int{1000000, 1000000}, []int{0, -1000000}), 0, api.ErrBreak) // 2857142
}

// P4.5: a wave at the limit is no break.
func TestGreatestWaves(t *testing.T) {
	next, voltages, e := surge.Step(line(true, 3, 5), state([]int{0, -1000000}, []int{0, 800000}), 1000000)
	want := state([]int{1000000, 200000}, []int{1000000, 1000000})
	if e != api.OK || !reflect.DeepEqual(next, want) || !reflect.DeepEqual(voltages, []int{1000000, 1000000, 0}) {
		t.Error(next, voltages, e)
	}
}

// P4.5: energies.
func TestEnergyOf(t *testing.T) {
	for _, x := range []struct {
		l    api.SurgeLine
		s    api.SurgeState
		want int
	}{
		{line(true, 1, 3), state([]int{8, 0}, []int{0, 0}), 64},
		{line(true, 1, 3), state([]int{0, 4}, []int{-4, 0}), 64},
		{line(false, 7), state([]int{-3}, []int{2}), 91},
		{line(false, 7, 2), state([]int{0, 0}, []int{0, 0}), 0},
		{line(false, 20, 20, 20, 20, 20, 20, 20, 20, 20, 20), state(slices.Repeat([]int{-1000000}, 10), slices.Repeat([]int{1000000}, 10)), 400000000000000},
	} {
		if n, e := surge.EnergyOf(x.l, x.s); n != x.want || e != api.OK {
			t.Error(x, n, e)
		}
	}
}

// P4.5: many steps.
func TestSteps(t *testing.T) {
	r := numbers(11)
	for i := range 3000 {
		l := randomLine(&r)
		most := []int{3, 100, 400000, 1000000}[i%4]
		s, source := randomState(&r, l, most), r.from(-most, most)
		want, wantVoltages := stepBySum(l, s, source)
		next, voltages, e := surge.Step(l, s, source)
		if isBroken(want) {
			if e != api.ErrBreak || len(next.Forward)+len(next.Back)+len(voltages) != 0 {
				t.Fatal(l, s, source, next, voltages, e)
			}
			continue
		}
		if e != api.OK || !reflect.DeepEqual(next, want) || !reflect.DeepEqual(voltages, wantVoltages) {
			t.Fatal(l, s, source, next, voltages, e, want, wantVoltages)
		}
	}
}

// P4.5: peaks.
func TestPeaksOf(t *testing.T) {
	for _, x := range []struct {
		l       api.SurgeLine
		sources []int
		want    api.SurgePeaks
	}{
		{line(false, 1, 1), []int{5, 0, 0}, api.SurgePeaks{Nodes: []int{5, 5, 10}, Gaps: []int{5, 10}}},
		{line(false, 1, 1), []int{-5, 0, 0}, api.SurgePeaks{Nodes: []int{5, 5, 10}, Gaps: []int{5, 10}}},
		{line(true, 1, 1), []int{5, 0, 0}, api.SurgePeaks{Nodes: []int{5, 5, 0}, Gaps: []int{5, 5}}},
		{line(false, 1, 1), []int{5, 0}, api.SurgePeaks{Nodes: []int{5, 5, 0}, Gaps: []int{5, 5}}},
		{line(false, 1, 1), []int{5}, api.SurgePeaks{Nodes: []int{5, 0, 0}, Gaps: []int{5, 0}}},
		{line(false, 1, 1), nil, api.SurgePeaks{Nodes: []int{0, 0, 0}, Gaps: []int{0, 0}}},
		{line(true, 20), []int{}, api.SurgePeaks{Nodes: []int{0, 0}, Gaps: []int{0}}},
		{line(false, 3), []int{1, -1, 1}, api.SurgePeaks{Nodes: []int{1, 2}, Gaps: []int{3}}},
		{line(false, 3), make([]int, 200), api.SurgePeaks{Nodes: []int{0, 0}, Gaps: []int{0}}},
	} {
		if p, e := surge.PeaksOf(x.l, x.sources); e != api.OK || !reflect.DeepEqual(p, x.want) {
			t.Error(x, p, e)
		}
	}
}

// P4.5: the errors of peaks.
func TestPeaksErrors(t *testing.T) {
	refused := func(l api.SurgeLine, sources []int, want api.Errno) {
		t.Helper()
		if p, e := surge.PeaksOf(l, sources); e != want || len(p.Nodes)+len(p.Gaps) != 0 {
			t.Error(l, sources, p, e)
		}
	}
	for _, x := range badLines() {
		refused(x.line, make([]int, 201), x.want)
		refused(x.line, nil, x.want)
	}
	one := line(false, 1)
	refused(one, make([]int, 201), api.ErrLarge)
	refused(one, append(make([]int, 200), least), api.ErrLarge)
	refused(one, append([]int{1000001}, make([]int, 200)...), api.ErrLarge)
	refused(one, []int{1000001}, api.ErrRange)
	refused(one, []int{0, 0, least}, api.ErrRange)
	refused(one, append(make([]int, 199), greatest), api.ErrRange)
	refused(one, []int{1000000, 0, -1}, api.ErrBreak)
	refused(one, []int{1000000, 0, -1, 1000001}, api.ErrBreak)
	refused(one, []int{1000000, 0, 1000001}, api.ErrRange) // of the same step the source is checked first
}

// P4.5: peaks of many sources.
func TestPeaksByWalk(t *testing.T) {
	r := numbers(12)
	for i := range 400 {
		l := randomLine(&r)
		n := len(l.Admittances)
		most := []int{3, 1000, 300000}[i%3]
		sources := r.list(r.below(201), -most, most)
		s := state(make([]int, n), make([]int, n))
		want := api.SurgePeaks{Nodes: make([]int, n+1), Gaps: make([]int, n)}
		broken := false
		for _, source := range sources {
			next, voltages := stepBySum(l, s, source)
			if broken = isBroken(next); broken {
				break
			}
			for j, u := range voltages {
				want.Nodes[j] = max(want.Nodes[j], u, -u)
				if j > 0 {
					want.Gaps[j-1] = max(want.Gaps[j-1], u-voltages[j-1], voltages[j-1]-u)
				}
			}
			s = next
		}
		p, e := surge.PeaksOf(l, sources)
		if broken {
			if e != api.ErrBreak || len(p.Nodes)+len(p.Gaps) != 0 {
				t.Fatal(l, sources, p, e)
			}
			continue
		}
		if e != api.OK || !reflect.DeepEqual(p, want) {
			t.Fatal(l, sources, p, e, want)
		}
	}
}

// P4.11: without a source the energy does not grow.
func TestEnergyDoesNotGrow(t *testing.T) {
	r := numbers(13)
	for i := range 300 {
		l := randomLine(&r)
		s := randomState(&r, l, []int{2, 20, 10000}[i%3])
		before, _ := surge.EnergyOf(l, s)
		for range 50 {
			next, _, e := surge.Step(l, s, 0)
			energy, f := surge.EnergyOf(l, next)
			if e != api.OK || f != api.OK || energy > before {
				t.Fatal(l, s, next, e, f, before, energy)
			}
			s, before = next, energy
		}
	}
}

// P4.11: with equal admittances the energy stays, and every wave comes back.
func TestWavesComeBack(t *testing.T) {
	r := numbers(14)
	for range 300 {
		n := r.from(1, 10)
		l := line(r.below(2) == 0, slices.Repeat([]int{r.from(1, 20)}, n)...)
		first := randomState(&r, l, 1000000)
		steps := 4 * n
		if l.Earthed {
			steps = 2 * n
		}
		s := first
		want, _ := surge.EnergyOf(l, s)
		for range steps {
			next, _, e := surge.Step(l, s, 0)
			energy, f := surge.EnergyOf(l, next)
			if e != api.OK || f != api.OK || energy != want {
				t.Fatal(l, s, next, e, f, want, energy)
			}
			s = next
		}
		if !reflect.DeepEqual(s, first) {
			t.Fatal(l, first, s)
		}
	}
}

// P4.12: with opposite sources all waves and voltages are opposite, and the peaks are the same.
func TestOppositeSurges(t *testing.T) {
	r := numbers(15)
	for i := range 300 {
		l := randomLine(&r)
		most := []int{3, 1000, 200000}[i%3]
		sources := r.list(30, -most, most)
		s, _ := surge.Begin(l)
		other, _ := surge.Begin(l)
		for _, source := range sources {
			next, voltages, e := surge.Step(l, s, source)
			otherNext, otherVoltages, f := surge.Step(l, other, -source)
			if e != f {
				t.Fatal(l, s, source, e, f)
			}
			if e != api.OK {
				break
			}
			if !slices.Equal(otherNext.Forward, opposite(next.Forward)) || !slices.Equal(otherNext.Back, opposite(next.Back)) || !slices.Equal(otherVoltages, opposite(voltages)) {
				t.Fatal(l, s, source, next, otherNext, voltages, otherVoltages)
			}
			s, other = next, otherNext
		}
		p, e := surge.PeaksOf(l, sources)
		q, f := surge.PeaksOf(l, opposite(sources))
		if e != f || !reflect.DeepEqual(p, q) {
			t.Fatal(l, sources, p, e, q, f)
		}
	}
}
