package surge

import "buchholz/api"

// without returns the state without waves, for so many sections.
func without(sections int) api.SurgeState {
	return api.SurgeState{Forward: make([]int, sections), Back: make([]int, sections)}
}

// reflected returns the wave that the end of a line throws back.
func reflected(l api.SurgeLine, wave int) int {
	if l.Earthed {
		return -wave
	}
	return wave
}

// after returns the state after a step from a valid one, and the voltages of the step. The waves may be too large.
func after(l api.SurgeLine, s api.SurgeState, source int) (api.SurgeState, []int) {
	y, a, b := l.Admittances, s.Forward, s.Back
	last := len(y) - 1
	next := without(len(y))
	next.Forward[0] = source - b[0]
	voltages := []int{source}
	for i := range last {
		sum := y[i] + y[i+1]
		next.Back[i] = (a[i]*(y[i]-y[i+1]) + 2*b[i+1]*y[i+1]) / sum
		next.Forward[i+1] = (b[i+1]*(y[i+1]-y[i]) + 2*a[i]*y[i]) / sum
		voltages = append(voltages, 2*(a[i]*y[i]+b[i+1]*y[i+1])/sum)
	}
	next.Back[last] = reflected(l, a[last])
	return next, append(voltages, a[last]+next.Back[last])
}

// raise replaces the peaks that a voltage, or a difference of neighbouring ones, exceeds in size.
func raise(peaks api.SurgePeaks, voltages []int) {
	for i, u := range voltages {
		peaks.Nodes[i] = max(peaks.Nodes[i], sizeOf(u))
	}
	for i := range peaks.Gaps {
		peaks.Gaps[i] = max(peaks.Gaps[i], sizeOf(voltages[i]-voltages[i+1]))
	}
}

// Begin returns the state without waves.
func Begin(l api.SurgeLine) (api.SurgeState, api.Errno) {
	if e := CheckLine(l); e != api.OK {
		return api.SurgeState{}, e
	}
	return without(len(l.Admittances)), api.OK
}

// Step returns the state after a step, and its voltages at all nodes.
func Step(l api.SurgeLine, s api.SurgeState, source int) (api.SurgeState, []int, api.Errno) {
	state := checkState(s, len(l.Admittances))
	if e := firstOf(CheckLine(l), state, sized(api.MaxSurgeVoltage)(source)); e != api.OK {
		return api.SurgeState{}, nil, e
	}
	next, voltages := after(l, s, source)
	if checkState(next, len(l.Admittances)) != api.OK {
		return api.SurgeState{}, nil, api.ErrBreak
	}
	return next, voltages, api.OK
}

// EnergyOf returns the energy of a state.
func EnergyOf(l api.SurgeLine, s api.SurgeState) (int, api.Errno) {
	if e := firstOf(CheckLine(l), checkState(s, len(l.Admittances))); e != api.OK {
		return 0, e
	}
	sum := 0
	for i, y := range l.Admittances {
		sum += y * (s.Forward[i]*s.Forward[i] + s.Back[i]*s.Back[i])
	}
	return sum, api.OK
}

// PeaksOf returns the peaks of a step for each source, from the state without waves on.
func PeaksOf(l api.SurgeLine, sources []int) (api.SurgePeaks, api.Errno) {
	s, e := Begin(l)
	if e = firstOf(e, checkCount(len(sources), 0, api.MaxSurgeSteps)); e != api.OK {
		return api.SurgePeaks{}, e
	}
	sections := len(l.Admittances)
	peaks := api.SurgePeaks{Nodes: make([]int, sections+1), Gaps: make([]int, sections)}
	for _, source := range sources {
		next, voltages, e := Step(l, s, source)
		if e != api.OK {
			return api.SurgePeaks{}, e
		}
		raise(peaks, voltages)
		s = next
	}
	return peaks, api.OK
}
