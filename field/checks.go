// Package field is chapter 3: magnetic networks, enclosures of their energy, inductances, losses, and magnetization curves. See shared/doc/03-field.md.
package field

import "buchholz/api"

// firstOf returns the first error, or OK.
func firstOf(l ...api.Errno) api.Errno {
	for _, e := range l {
		if e != api.OK {
			return e
		}
	}
	return api.OK
}

// errorOf returns an error without its index.
func errorOf(_ int, e api.Errno) api.Errno {
	return e
}

// firstWrong returns the index of the first item that a check refuses, and its error.
func firstWrong[T any](l []T, check func(T) api.Errno) (int, api.Errno) {
	for i, item := range l {
		if e := check(item); e != api.OK {
			return i, e
		}
	}
	return 0, api.OK
}

// within returns the check that refuses numbers that are not from lo to hi.
func within(lo, hi int) func(int) api.Errno {
	return func(n int) api.Errno {
		if n < lo || n > hi {
			return api.ErrRange
		}
		return api.OK
	}
}

// sized returns the check that refuses numbers that are greater in size than most.
func sized(most int) func(int) api.Errno {
	return within(-most, most)
}

// checkNumbers refuses another count of numbers, and numbers that a check refuses.
func checkNumbers(l []int, count int, check func(int) api.Errno) api.Errno {
	if len(l) != count {
		return api.ErrShape
	}
	return errorOf(firstWrong(l, check))
}

// CheckNet accepts a network: it returns the index of the first wrong branch, and its error.
func CheckNet(n api.FieldNet) (int, api.Errno) {
	if e := within(1, api.MaxFieldNodes)(n.Nodes); e != api.OK {
		return 0, e
	}
	if len(n.Branches) > api.MaxFieldBranches {
		return 0, api.ErrLarge
	}
	return firstWrong(n.Branches, func(b api.FieldBranch) api.Errno {
		return checkBranch(b, n.Nodes)
	})
}

// checkBranch checks a branch of a network with so many nodes.
func checkBranch(b api.FieldBranch, nodes int) api.Errno {
	if isNode := within(0, nodes-1); firstOf(isNode(b.From), isNode(b.To)) != api.OK {
		return api.ErrMissing
	}
	if b.From == b.To {
		return api.ErrForm
	}
	return firstOf(within(1, api.MaxFieldReluctance)(b.Reluctance), sized(api.MaxFieldTurns)(b.Turns))
}

// checkRanges checks the ranges of the reluctances of a network.
func checkRanges(n api.FieldNet, l []api.Range) api.Errno {
	if len(l) != len(n.Branches) {
		return api.ErrShape
	}
	return errorOf(firstWrong(l, func(r api.Range) api.Errno {
		return checkEnds(r, within(1, api.MaxFieldReluctance))
	}))
}

// checkEnds refuses a range with an end that a check refuses, or with ends in the wrong order.
func checkEnds(r api.Range, check func(int) api.Errno) api.Errno {
	if e := firstOf(check(r.Lo), check(r.Hi)); e != api.OK {
		return e
	}
	if r.Lo > r.Hi {
		return api.ErrOrder
	}
	return api.OK
}

// checkGuess checks a guess of so many numbers.
func checkGuess(g api.FieldGuess, count int) api.Errno {
	return firstOf(within(1, api.MaxFieldDen)(g.Den), checkNumbers(g.Values, count, sized(api.MaxFieldValue)))
}

// checkWinding checks the turns of a winding for each branch of a network.
func checkWinding(n api.FieldNet, l []int) api.Errno {
	return checkNumbers(l, len(n.Branches), sized(api.MaxFieldTurns))
}

// CheckCurve accepts a curve: it returns the index of the first wrong point, and its error.
func CheckCurve(c api.FieldCurve) (int, api.Errno) {
	if len(c.Points) == 0 {
		return 0, api.ErrShape
	}
	if len(c.Points) > api.MaxFieldPoints {
		return 0, api.ErrLarge
	}
	var before api.FieldPoint // at first 0, 0, where each curve begins
	return firstWrong(c.Points, func(p api.FieldPoint) api.Errno {
		e := checkPoint(p, before)
		before = p
		return e
	})
}

// checkPoint checks a point of a curve that comes after another one.
func checkPoint(p, before api.FieldPoint) api.Errno {
	check := within(1, api.MaxFieldCurve)
	if e := firstOf(check(p.Flux), check(p.Turns)); e != api.OK {
		return e
	}
	if p.Flux <= before.Flux || p.Turns <= before.Turns {
		return api.ErrOrder
	}
	return api.OK
}
