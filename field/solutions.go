package field

import "buchholz/api"

// solve returns the reduced solution of a valid network, whose ampere turns may be greater than MaxFieldTurns.
//
// The potentials are the mean of those of all forests, by their weights. The sum of the weights is the determinant of the equations of the loops, which are whole: so each flux is whole over it, too. It is below 5 10^8.
func solve(n api.FieldNet) api.FieldSolution {
	s := api.FieldSolution{Potentials: make([]int, n.Nodes), Fluxes: make([]int, len(n.Branches))}
	for f := range forestsOf(n) {
		s.Den += f.weight
		for i := range s.Potentials {
			s.Potentials[i] += f.weight * f.potentials[i]
		}
	}
	for i, b := range n.Branches {
		s.Fluxes[i] = dropOver(b, s.Potentials, s.Den) / b.Reluctance
	}
	reduce(&s)
	return s
}

// dropOver returns the Reluctance times the flux of a branch between potentials over a denominator.
func dropOver(b api.FieldBranch, potentials []int, den int) int {
	return potentials[b.From] - potentials[b.To] + b.Turns*den
}

// divisorOf returns the greatest number that divides all numbers of a solution.
func divisorOf(s api.FieldSolution) int {
	return divisor(s.Den, divisor(s.Potentials...), divisor(s.Fluxes...))
}

func reduce(s *api.FieldSolution) {
	d := divisorOf(*s)
	s.Den /= d
	for i := range s.Potentials {
		s.Potentials[i] /= d
	}
	for i := range s.Fluxes {
		s.Fluxes[i] /= d
	}
}

// SolutionOf returns the reduced solution.
func SolutionOf(n api.FieldNet) (api.FieldSolution, api.Errno) {
	if e := errorOf(CheckNet(n)); e != api.OK {
		return api.FieldSolution{}, e
	}
	return solve(n), api.OK
}

// CheckSolution accepts the reduced solution: otherwise it returns the index of the node or the branch that is wrong, and the error.
func CheckSolution(n api.FieldNet, s api.FieldSolution) (int, api.Errno) {
	if e := firstOf(errorOf(CheckNet(n)), checkNumerators(n, s)); e != api.OK {
		return 0, e
	}
	for i, lowest := range partsIn(n) {
		if i == lowest && i < n.Nodes && s.Potentials[i] != 0 {
			return i, api.ErrZero
		}
	}
	for i, b := range n.Branches {
		if dropOver(b, s.Potentials, s.Den) != b.Reluctance*s.Fluxes[i] {
			return i, api.ErrProof
		}
	}
	return checkBalance(n, s.Fluxes)
}

// checkNumerators checks the form of a solution alone.
func checkNumerators(n api.FieldNet, s api.FieldSolution) api.Errno {
	check := sized(api.MaxFieldPart)
	if e := within(1, api.MaxFieldPart)(s.Den); e != api.OK {
		return e
	}
	if len(s.Potentials) != n.Nodes || len(s.Fluxes) != len(n.Branches) {
		return api.ErrShape
	}
	if e := firstOf(errorOf(firstWrong(s.Potentials, check)), errorOf(firstWrong(s.Fluxes, check))); e != api.OK {
		return e
	}
	if divisorOf(s) > 1 {
		return api.ErrForm
	}
	return api.OK
}

// checkBalance returns the first node that fluxes leave by more or less than they enter it, and the error.
func checkBalance(n api.FieldNet, fluxes []int) (int, api.Errno) {
	var leaving, entering perNode
	for i, b := range n.Branches {
		leaving[b.From] += fluxes[i]
		entering[b.To] += fluxes[i]
	}
	if leaving == entering {
		return 0, api.OK
	}
	first := 0
	for leaving[first] == entering[first] {
		first++
	}
	return first, api.ErrGap
}

// FluxRanges returns the flux ranges of all branches.
func FluxRanges(n api.FieldNet) ([]api.Range, api.Errno) {
	if e := errorOf(CheckNet(n)); e != api.OK {
		return nil, e
	}
	s := solve(n)
	l := make([]api.Range, len(s.Fluxes))
	for i, flux := range s.Fluxes {
		l[i] = rounded(flux, s.Den)
	}
	return l, api.OK
}

// LossRange returns the loss range.
func LossRange(n api.FieldNet, losses []int) (api.Range, api.Errno) {
	l, e := FluxRanges(n)
	if e = firstOf(e, checkNumbers(losses, len(n.Branches), within(0, api.MaxFieldLoss))); e != api.OK {
		return api.Range{}, e
	}
	var sum api.Range
	for i, r := range l {
		squares := api.Range{Lo: r.Lo * r.Lo, Hi: r.Hi * r.Hi}
		sum.Lo += losses[i] * min(squares.Lo, squares.Hi)
		sum.Hi += losses[i] * max(squares.Lo, squares.Hi)
	}
	return sum, api.OK
}

// SaturatedIn returns the indexes of all saturated branches.
func SaturatedIn(n api.FieldNet, limits []int) ([]int, api.Errno) {
	if e := firstOf(errorOf(CheckNet(n)), checkNumbers(limits, len(n.Branches), within(0, api.MaxFieldLimit))); e != api.OK {
		return nil, e
	}
	var l []int
	s := solve(n)
	for i, flux := range s.Fluxes {
		if max(flux, -flux) > limits[i]*s.Den {
			l = append(l, i)
		}
	}
	return l, api.OK
}
