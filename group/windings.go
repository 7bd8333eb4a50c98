package group

import "buchholz/api"

// lines is api.GroupLines whose numbers are small enough for its methods.
type lines api.GroupLines

// patterns is, by kinds (star, delta, zigzag), the turns between a terminal and the next one: on its own limb and on the two after it.
var patterns = [api.GroupKinds][3]int{{1, -1, 0}, {1, 0, 0}, {1, -2, 1}}

// permutations is all the ways to rename terminals, in the order in which matches are tried.
var permutations = [6][3]int{{0, 1, 2}, {0, 2, 1}, {1, 0, 2}, {1, 2, 0}, {2, 0, 1}, {2, 1, 0}}

// linesFrom returns the lines of a valid winding.
func linesFrom(w api.GroupWinding) lines {
	var l lines
	turns := signedTurns(w)
	for k := range 3 {
		for j := range 3 {
			l[k][(k+j+w.Shift)%3] = turns * patterns[w.Kind][j]
		}
	}
	return l
}

func signedTurns(w api.GroupWinding) int {
	if w.Reversed {
		return -w.Turns
	}
	return w.Turns
}

// phasorAt returns the phasor of the voltage from the terminal k to the next one.
func (l lines) phasorAt(k int) phasor {
	var sum phasor
	for limb, turns := range l[k] {
		sum.P += turns * limbPhasors[limb].P
		sum.Q += turns * limbPhasors[limb].Q
	}
	return sum
}

func (l lines) sequence() (int, api.Errno) {
	a, b, c := l.phasorAt(0), l.phasorAt(1), l.phasorAt(2)
	if a == (phasor{}) {
		return 0, api.ErrZero
	}
	follows := func(by phasor) bool { return b == a.times(by) && c == b.times(by) }
	if follows(limbPhasors[1]) {
		return 1, api.OK
	}
	if follows(limbPhasors[2]) {
		return -1, api.OK
	}
	return 0, api.ErrNone
}

// renamed returns the lines whose terminal k is the one that was p[k], for a permutation p.
func (l lines) renamed(p [3]int) lines {
	var r lines
	for k := range 3 {
		from, to := p[k], p[(k+1)%3]
		if to == (from+1)%3 {
			r[k] = l[from]
			continue
		}
		for limb := range 3 {
			r[k][limb] = -l[to][limb]
		}
	}
	return r
}

// LinesOf returns the voltages between the terminals of a winding.
func LinesOf(w api.GroupWinding) (api.GroupLines, api.Errno) {
	if e := CheckWinding(w); e != api.OK {
		return api.GroupLines{}, e
	}
	return api.GroupLines(linesFrom(w)), api.OK
}

// ZeroOf returns the turns between a terminal and the common point of a winding.
func ZeroOf(w api.GroupWinding) (int, api.Errno) {
	if e := CheckWinding(w); e != api.OK {
		return 0, e
	}
	switch w.Kind {
	case api.GroupStar:
		return signedTurns(w), api.OK
	case api.GroupZigzag:
		return 0, api.OK
	}
	return 0, api.ErrNone
}

// PhasorOf returns the phasor of the first voltage.
func PhasorOf(l api.GroupLines) (api.GroupPhasor, api.Errno) {
	if e := CheckLines(l); e != api.OK {
		return api.GroupPhasor{}, e
	}
	return api.GroupPhasor(lines(l).phasorAt(0)), api.OK
}

// SequenceOf returns the sequence of lines, 1 or -1.
func SequenceOf(l api.GroupLines) (int, api.Errno) {
	if e := CheckLines(l); e != api.OK {
		return 0, e
	}
	return lines(l).sequence()
}

// Renamed returns lines with renamed terminals: the terminal k is the one that was p[k].
func Renamed(l api.GroupLines, p [3]int) (api.GroupLines, api.Errno) {
	if e := firstOf(CheckLines(l), checkPermutation(p)); e != api.OK {
		return api.GroupLines{}, e
	}
	return api.GroupLines(lines(l).renamed(p)), api.OK
}
