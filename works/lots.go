package works

import (
	"slices"

	"buchholz/api"
)

// lots are valid lots.
type lots []api.WorksLot

func checkedLots(l []api.WorksLot) (lots, api.Errno) {
	if e := errorOf(CheckLots(l)); e != api.OK {
		return nil, e
	}
	return lots(l), api.OK
}

// checkLot accepts a lot alone.
func checkLot(x api.WorksLot) api.Errno {
	if e := firstOf(checkName(x.Name), atMost(len(x.Made), api.MaxWorksMade)); e != api.OK {
		return e
	}
	_, made := checkEach(x.Made, func(i int, name string) api.Errno {
		return firstOf(checkName(name), occursBefore(x.Made, i))
	})
	return firstOf(made, checkValues(x.Measured), checkValues(x.Limits))
}

func checkValues(r api.Range) api.Errno {
	return firstOf(within(-api.MaxWorksValue, api.MaxWorksValue)(r.Lo, r.Hi), inOrder(r))
}

// CheckLots accepts lots: it returns the index of the first wrong lot, and its error.
func CheckLots(l []api.WorksLot) (int, api.Errno) {
	if e := atMost(len(l), api.MaxWorksLots); e != api.OK {
		return 0, e
	}
	return checkEach(l, func(i int, x api.WorksLot) api.Errno {
		return firstOf(checkLot(x), lots(l[:i]).checkNext(x))
	})
}

// checkNext refuses a lot after others, if one of them has its name, or one from which it is made is not among them.
func (l lots) checkNext(x api.WorksLot) api.Errno {
	if l.has(x.Name) {
		return api.ErrExists
	}
	for _, name := range x.Made {
		if !l.has(name) {
			return api.ErrMissing
		}
	}
	return api.OK
}

func (l lots) has(name string) bool {
	return slices.ContainsFunc(l, func(x api.WorksLot) bool { return x.Name == name })
}

// checkAsked refuses what is not a name, and not the name of a lot.
func (l lots) checkAsked(name string) api.Errno {
	if e := checkName(name); e != api.OK {
		return e
	}
	if !l.has(name) {
		return api.ErrMissing
	}
	return api.OK
}

// accepted returns whether a valid lot is accepted, as an answer.
func accepted(x api.WorksLot) int {
	switch {
	case x.Measured.Lo >= x.Limits.Lo && x.Measured.Hi <= x.Limits.Hi:
		return api.AnswerYes
	case x.Measured.Hi < x.Limits.Lo || x.Measured.Lo > x.Limits.Hi:
		return api.AnswerNo
	}
	return api.AnswerMaybe
}

// ingredients returns, for the name of each lot, the set of the names of its ingredients.
func (l lots) ingredients() map[string]map[string]bool {
	all := map[string]map[string]bool{}
	for _, x := range l {
		set := map[string]bool{}
		for _, name := range x.Made {
			set[name] = true
			for further := range all[name] {
				set[further] = true
			}
		}
		all[x.Name] = set
	}
	return all
}

// suspects returns the set of the names of all suspect lots.
func (l lots) suspects() map[string]bool {
	ingredients := l.ingredients()
	bad := map[string]bool{}
	for _, x := range l {
		bad[x.Name] = accepted(x) != api.AnswerYes
	}
	suspects := map[string]bool{}
	for _, x := range l {
		suspects[x.Name] = bad[x.Name]
		for name := range ingredients[x.Name] {
			suspects[x.Name] = suspects[x.Name] || bad[name]
		}
	}
	return suspects
}

// namesOf returns the names that are chosen, in the order of their lots.
func (l lots) namesOf(isChosen func(string) bool) []string {
	var names []string
	for _, x := range l {
		if isChosen(x.Name) {
			names = append(names, x.Name)
		}
	}
	return names
}

// AcceptOf returns whether a lot is accepted, as an answer.
func AcceptOf(x api.WorksLot) (int, api.Errno) {
	if e := checkLot(x); e != api.OK {
		return 0, e
	}
	return accepted(x), api.OK
}

// IngredientsOf returns the names of the ingredients of a lot.
func IngredientsOf(l []api.WorksLot, name string) ([]string, api.Errno) {
	x, e := checkedLots(l)
	if e != api.OK {
		return nil, e
	}
	if e := x.checkAsked(name); e != api.OK {
		return nil, e
	}
	ingredients := x.ingredients()
	return x.namesOf(func(other string) bool { return ingredients[name][other] }), api.OK
}

// ProductsOf returns the names of the products of a lot.
func ProductsOf(l []api.WorksLot, name string) ([]string, api.Errno) {
	x, e := checkedLots(l)
	if e != api.OK {
		return nil, e
	}
	if e := x.checkAsked(name); e != api.OK {
		return nil, e
	}
	ingredients := x.ingredients()
	return x.namesOf(func(other string) bool { return ingredients[other][name] }), api.OK
}

// SuspectsIn returns the names of all suspect lots.
func SuspectsIn(l []api.WorksLot) ([]string, api.Errno) {
	x, e := checkedLots(l)
	if e != api.OK {
		return nil, e
	}
	suspects := x.suspects()
	return x.namesOf(func(name string) bool { return suspects[name] }), api.OK
}
