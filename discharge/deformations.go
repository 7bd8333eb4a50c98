package discharge

import (
	"slices"

	"buchholz/api"
)

// suspicion is a valid network, deformations that it may have, and valid responses that were measured.
type suspicion struct {
	network  api.DischargeNetwork
	list     []api.DischargeDeformation
	measured api.DischargeMeasured
}

func suspicionOf(n api.DischargeNetwork, l []api.DischargeDeformation, m api.DischargeMeasured) (suspicion, api.Errno) {
	if e := firstOf(checkDeformed(n, l), checkMeasured(m)); e != api.OK {
		return suspicion{}, e
	}
	return suspicion{network: n, list: l, measured: m}, api.OK
}

// checkDeformed refuses a network, or a list of its deformations.
func checkDeformed(n api.DischargeNetwork, l []api.DischargeDeformation) api.Errno {
	return firstOf(errorOf(CheckNetwork(n)), checkList(l, len(n.Sections)))
}

// numbersOf returns the numbers of a section, by their kinds.
func numbersOf(s *api.DischargeSection) [api.DischargeKinds]*int {
	return [api.DischargeKinds]*int{api.DischargeR: &s.R, api.DischargeL: &s.L, api.DischargeC: &s.C}
}

// changed returns a network with all changes, and whether it is valid.
func changed(n api.DischargeNetwork, l ...api.DischargeDeformation) (api.DischargeNetwork, bool) {
	n.Sections = slices.Clone(n.Sections)
	for _, d := range l {
		*numbersOf(&n.Sections[d.Section])[d.Kind] += d.By
	}
	return n, errorOf(CheckNetwork(n)) == api.OK
}

// isExplainedBy returns whether a set of the deformations explains the responses.
func (s suspicion) isExplainedBy(set []int) bool {
	var chosen []api.DischargeDeformation
	for _, index := range set {
		chosen = append(chosen, s.list[index])
	}
	n, isValid := changed(s.network, chosen...)
	if !isValid {
		return false
	}
	for i, frequency := range s.measured.Frequencies {
		if responseAt(n, frequency) != s.measured.Responses[i] {
			return false
		}
	}
	return true
}

// explanations returns all sets with the minimum size that explain the responses.
func (s suspicion) explanations() [][]int {
	var found [][]int
	for set := range setsOf(len(s.list)) {
		if found != nil && len(set) > len(found[0]) {
			break
		}
		if s.isExplainedBy(set) {
			found = append(found, set)
		}
	}
	return found
}

// Deformed returns a network with all changes of a list.
func Deformed(n api.DischargeNetwork, l []api.DischargeDeformation) (api.DischargeNetwork, api.Errno) {
	if e := checkDeformed(n, l); e != api.OK {
		return api.DischargeNetwork{}, e
	}
	deformed, isValid := changed(n, l...)
	if !isValid {
		return api.DischargeNetwork{}, api.ErrBreak
	}
	return deformed, api.OK
}

// ExplanationsOf returns the explanations of measured responses.
func ExplanationsOf(n api.DischargeNetwork, l []api.DischargeDeformation, m api.DischargeMeasured) ([][]int, api.Errno) {
	s, e := suspicionOf(n, l, m)
	if e != api.OK {
		return nil, e
	}
	found := s.explanations()
	if found == nil {
		return nil, api.ErrNone
	}
	return found, api.OK
}

// Explains returns whether a set of deformations explains measured responses.
func Explains(n api.DischargeNetwork, l []api.DischargeDeformation, x api.DischargeClaim) (bool, api.Errno) {
	s, e := suspicionOf(n, l, x.Measured)
	if e := firstOf(e, checkSet(x.Set, len(l))); e != api.OK {
		return false, e
	}
	return s.isExplainedBy(x.Set), api.OK
}
