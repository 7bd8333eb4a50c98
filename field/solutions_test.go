package field_test

import (
	"math/big"
	"reflect"
	"testing"

	"buchholz/api"
	"buchholz/field"
)

const (
	ring  = "2,0 1 3 10,1 0 2 0"         // example 1
	third = "2,0 1 3 10,1 0 2 0,0 1 6 0" // example 2
)

// solution makes a solution of its numbers.
func solution(den int, potentials, fluxes []int) api.FieldSolution {
	return api.FieldSolution{Den: den, Potentials: potentials, Fluxes: fluxes}
}

// equal compares solutions, with a nil slice like an empty one.
func equal(a, b api.FieldSolution) bool {
	list := func(l []int) []int { return append([]int{}, l...) }
	return a.Den == b.Den && reflect.DeepEqual(list(a.Potentials), list(b.Potentials)) && reflect.DeepEqual(list(a.Fluxes), list(b.Fluxes))
}

// P3.2: the reduced solution: of the examples, without branches, without loops, without ampere turns, and of parts.
func TestSolutionOf(t *testing.T) {
	for s, want := range map[string]api.FieldSolution{
		ring:                                 solution(1, []int{0, 4}, []int{2, 2}),
		third:                                solution(9, []int{0, 30}, []int{20, 15, -5}),
		"1":                                  solution(1, []int{0}, nil),
		"5":                                  solution(1, []int{0, 0, 0, 0, 0}, nil),
		"2,0 1 7 10":                         solution(1, []int{0, 10}, []int{0}),
		"2,1 0 7 10":                         solution(1, []int{0, -10}, []int{0}),
		"3,2 1 7 50":                         solution(1, []int{0, 0, -50}, []int{0}),
		"4,3 1 7 -50,0 2 3 9":                solution(1, []int{0, 0, 9, 50}, []int{0, 0}),
		"3,0 1 3 0,1 2 5 0,2 0 7 0":          solution(1, []int{0, 0, 0}, []int{0, 0, 0}),
		"2,0 1 4 1,0 1 4 0":                  solution(8, []int{0, 4}, []int{1, -1}),
		"2,0 1 4 2,0 1 4 0":                  solution(4, []int{0, 4}, []int{1, -1}),
		"2,0 1 4 5,0 1 4 5":                  solution(1, []int{0, 5}, []int{0, 0}),
		"3,1 2 3 10,2 1 2 0,0 1 1 -3":        solution(1, []int{0, -3, 1}, []int{2, 2, 0}),
		"4,0 1 3 10,1 0 2 0,2 3 1 1,3 2 2 0": solution(3, []int{0, 12, 0, 2}, []int{6, 6, 1, 1}),
	} {
		if got, e := field.SolutionOf(net(t, s)); e != api.OK || !equal(got, want) {
			t.Error(s, got, e)
		}
	}
	refuse(t, "SolutionOf", func(n api.FieldNet) (bool, api.Errno) {
		s, e := field.SolutionOf(n)
		return reflect.DeepEqual(s, api.FieldSolution{}), e
	})
}

// reducedFrom returns the reduced solution with the given potentials and fluxes.
func reducedFrom(potentials, fluxes []*big.Rat) api.FieldSolution {
	den := big.NewInt(1)
	for _, l := range [][]*big.Rat{potentials, fluxes} {
		for _, x := range l {
			d := new(big.Int).GCD(nil, nil, den, x.Denom())
			den.Mul(den, new(big.Int).Div(x.Denom(), d))
		}
	}
	over := func(l []*big.Rat) []int {
		r := make([]int, len(l))
		for i, x := range l {
			r[i] = int(times(x, new(big.Rat).SetInt(den)).Num().Int64())
		}
		return r
	}
	return solution(int(den.Int64()), over(potentials), over(fluxes))
}

// P3.2: the solution by elimination is the reduced one, and is accepted.
func TestSolutionByElimination(t *testing.T) {
	r := numbers(3)
	for i := range 3000 {
		n := randomNet(&r, []int{2, 20}[i%2])
		potentials, fluxes := solved(n, turnsOf(n))
		want := reducedFrom(potentials, fluxes)
		if s, e := field.SolutionOf(n); e != api.OK || !equal(s, want) {
			t.Fatal(n, s, want, e)
		}
		if j, e := field.CheckSolution(n, want); j != 0 || e != api.OK {
			t.Fatal(n, want, j, e)
		}
	}
}

// P3.2: the greatest numbers.
func TestGreatSolution(t *testing.T) {
	n := net(t, "2,0 1 20 50,0 1 19 50,0 1 17 50,0 1 13 -50,1 0 11 50,1 0 7 50,0 1 9 -50")
	s, e := field.SolutionOf(n)
	if want := reducedFrom(solved(n, turnsOf(n))); e != api.OK || !equal(s, want) || s.Den < 1e7 {
		t.Error(s, want, e)
	}
	if i, e := field.CheckSolution(n, s); i != 0 || e != api.OK {
		t.Error(s, i, e)
	}
}

type badSolution struct {
	s     api.FieldSolution
	index int
	want  api.Errno
}

func refuseSolutions(t *testing.T, n api.FieldNet, l []badSolution) {
	t.Helper()
	for _, x := range l {
		if i, e := field.CheckSolution(n, x.s); i != x.index || e != x.want {
			t.Error(x, i, e)
		}
	}
}

// P3.2: solutions that are refused for their form, in the order of the errors.
func TestCheckSolutionForm(t *testing.T) {
	const most = api.MaxFieldPart
	refuseSolutions(t, net(t, ring), []badSolution{
		{api.FieldSolution{}, 0, api.ErrRange},
		{solution(-1, []int{0, -4}, []int{-2, -2}), 0, api.ErrRange},
		{solution(0, []int{0}, []int{least}), 0, api.ErrRange},
		{solution(most+1, []int{0, 4}, []int{2, 2}), 0, api.ErrRange},
		{solution(least, []int{0, 4}, []int{2, 2}), 0, api.ErrRange},
		{solution(1, nil, []int{2, 2}), 0, api.ErrShape},
		{solution(1, []int{0, 4}, nil), 0, api.ErrShape},
		{solution(1, []int{0}, []int{2, 2}), 0, api.ErrShape},
		{solution(1, []int{0, 4, 0}, []int{2, 2}), 0, api.ErrShape},
		{solution(1, []int{0, least}, []int{2}), 0, api.ErrShape},
		{solution(1, []int{0, 4}, []int{2, 2, 2}), 0, api.ErrShape},
		{solution(1, []int{most + 1, 4}, []int{2, 2}), 0, api.ErrRange},
		{solution(1, []int{0, -most - 1}, []int{2, 2}), 0, api.ErrRange},
		{solution(2, []int{0, least}, []int{2, 2}), 0, api.ErrRange},
		{solution(2, []int{0, 4}, []int{most + 1, 2}), 0, api.ErrRange},
		{solution(2, []int{0, 4}, []int{2, greatest}), 0, api.ErrRange},
		{solution(2, []int{0, 4}, []int{2, least}), 0, api.ErrRange},
		{solution(2, []int{0, 8}, []int{4, 4}), 0, api.ErrForm},
		{solution(3, []int{3, -6}, []int{9, 0}), 0, api.ErrForm},
		{solution(most, []int{0, 0}, []int{0, 0}), 0, api.ErrForm},
		{solution(2, []int{-most, most}, []int{-most, most}), 0, api.ErrForm},
	})
	for _, x := range badNets() {
		if i, e := field.CheckSolution(x.net, api.FieldSolution{}); i != 0 || e != x.want {
			t.Error(x, i, e)
		}
	}
}

// P3.2: solutions that are refused for what they say.
func TestCheckSolutionProof(t *testing.T) {
	const most = api.MaxFieldPart
	refuseSolutions(t, net(t, ring), []badSolution{
		{solution(1, []int{0, 4}, []int{2, 2}), 0, api.OK},
		{solution(1, []int{1, 5}, []int{2, 2}), 0, api.ErrZero},
		{solution(1, []int{-1, 7}, []int{0, 0}), 0, api.ErrZero},
		{solution(2, []int{0, 4}, []int{2, 1}), 0, api.ErrProof},
		{solution(1, []int{0, 4}, []int{-2, 2}), 0, api.ErrProof},
		{solution(1, []int{0, 4}, []int{2, 3}), 1, api.ErrProof},
		{solution(1, []int{0, 4}, []int{2, -2}), 1, api.ErrProof},
		{solution(1, []int{0, 10}, []int{0, 5}), 0, api.ErrGap},
		{solution(1, []int{0, -2}, []int{4, -1}), 0, api.ErrGap},
		{solution(1, []int{0, most}, []int{most, most}), 0, api.ErrProof},
		{solution(most, []int{0, 1 - most}, []int{most, -most}), 0, api.ErrProof},
	})
	// Two parts, and a node without branches: 0, 1, and 2 to 4.
	refuseSolutions(t, net(t, "5,2 3 1 3,3 2 2 0,3 4 1 0,4 3 1 4"), []badSolution{
		{solution(1, []int{0, 0, 0, 2, 0}, []int{1, 1, 2, 2}), 0, api.OK},
		{solution(1, []int{0, 7, 0, 2, 0}, []int{9, 1, 2, 2}), 1, api.ErrZero},
		{solution(1, []int{0, 0, 1, 3, 1}, []int{1, 1, 2, 2}), 2, api.ErrZero},
		{solution(1, []int{8, 9, 1, 3, 1}, []int{1, 1, 2, 2}), 0, api.ErrZero},
		{solution(1, []int{0, 0, 0, 2, 0}, []int{1, 1, 3, 2}), 2, api.ErrProof},
		{solution(1, []int{0, 0, 0, 2, 1}, []int{1, 1, 1, 3}), 3, api.ErrGap},
		{solution(1, []int{0, 0, 0, 0, -2}, []int{3, 0, 2, 2}), 2, api.ErrGap},
	})
	refuseSolutions(t, net(t, "1"), []badSolution{
		{solution(1, []int{0}, nil), 0, api.OK},
		{solution(1, []int{0}, []int{}), 0, api.OK},
		{solution(2, []int{0}, nil), 0, api.ErrForm},
		{solution(2, []int{1}, nil), 0, api.ErrZero},
	})
}

// P3.2: no other solution is accepted than the reduced one.
func TestOtherSolutions(t *testing.T) {
	r := numbers(4)
	for range 2000 {
		n := randomNet(&r, 4)
		right, _ := field.SolutionOf(n)
		s, _ := field.SolutionOf(n)
		for range 1 + r.below(2) {
			numbers := [][]int{s.Potentials, s.Fluxes}[r.below(2)]
			if len(numbers) > 0 {
				numbers[r.below(len(numbers))] += r.from(-1, 1)
			}
		}
		if i, e := field.CheckSolution(n, s); (e == api.OK) != equal(s, right) || e == api.OK && i != 0 {
			t.Fatal(n, s, right, i, e)
		}
	}
}

// P3.2: the flux ranges of the examples.
func TestFluxRanges(t *testing.T) {
	for s, want := range map[string][]api.Range{
		ring:                  {{Lo: 2, Hi: 2}, {Lo: 2, Hi: 2}},
		third:                 {{Lo: 2, Hi: 3}, {Lo: 1, Hi: 2}, {Lo: -1, Hi: 0}},
		"2,0 1 3 -10,1 0 2 0": {{Lo: -2, Hi: -2}, {Lo: -2, Hi: -2}},
		"2,0 1 4 1,0 1 4 -9":  {{Lo: 1, Hi: 2}, {Lo: -2, Hi: -1}},
		"2,0 1 4 1":           {{Lo: 0, Hi: 0}},
		"3":                   {},
	} {
		if l, e := field.FluxRanges(net(t, s)); e != api.OK || !reflect.DeepEqual(append([]api.Range{}, l...), want) {
			t.Error(s, l, e)
		}
	}
	refuse(t, "FluxRanges", func(n api.FieldNet) (bool, api.Errno) {
		l, e := field.FluxRanges(n)
		return l == nil, e
	})
}

// P3.2: the flux ranges are the narrowest whole ones.
func TestFluxRangesAreNarrow(t *testing.T) {
	r := numbers(5)
	for range 1000 {
		n := randomNet(&r, 20)
		_, fluxes := solved(n, turnsOf(n))
		l, e := field.FluxRanges(n)
		if e != api.OK || len(l) != len(fluxes) {
			t.Fatal(n, l, e)
		}
		for i, f := range fluxes {
			width := 1
			if f.IsInt() {
				width = 0
			}
			if whole(l[i].Lo).Cmp(f) > 0 || whole(l[i].Hi).Cmp(f) < 0 || l[i].Hi-l[i].Lo != width {
				t.Fatal(n, f, l[i])
			}
		}
	}
}

// P3.6: the loss ranges of the examples.
func TestLossRange(t *testing.T) {
	for _, x := range []struct {
		net    string
		losses []int
		want   api.Range
	}{
		{third, []int{1, 1, 1}, api.Range{Lo: 5, Hi: 14}},
		{third, []int{0, 0, 1000}, api.Range{Lo: 0, Hi: 1000}},
		{third, []int{1, 10, 100}, api.Range{Lo: 14, Hi: 149}},
		{ring, []int{3, 0}, api.Range{Lo: 12, Hi: 12}},
		{"2,0 1 4 1,0 1 4 -9", []int{1, 10}, api.Range{Lo: 11, Hi: 44}},
		{"1", nil, api.Range{}},
	} {
		if r, e := field.LossRange(net(t, x.net), x.losses); e != api.OK || r != x.want {
			t.Error(x, r, e)
		}
	}
	for _, x := range badLists(3, 0, 1000) {
		if r, e := field.LossRange(net(t, third), x.list); e != x.want || r != (api.Range{}) {
			t.Error(x, r, e)
		}
	}
	refuse(t, "LossRange", func(n api.FieldNet) (bool, api.Errno) {
		r, e := field.LossRange(n, []int{-1})
		return r == api.Range{}, e
	})
}

// P3.6, P3.13: the loss lies in the range, whose ends are the least and the greatest sum of squares.
func TestLossInRange(t *testing.T) {
	r := numbers(6)
	for range 1000 {
		n := randomNet(&r, 20)
		losses := randomList(&r, len(n.Branches), 0, 1000)
		got, e := field.LossRange(n, losses)
		l, _ := field.FluxRanges(n)
		_, fluxes := solved(n, turnsOf(n))
		var want api.Range
		loss := new(big.Rat)
		for i, f := range fluxes {
			a, b := l[i].Lo*l[i].Lo*losses[i], l[i].Hi*l[i].Hi*losses[i]
			want.Lo += min(a, b)
			want.Hi += max(a, b)
			loss = plus(loss, times(whole(losses[i]), square(f)))
		}
		if e != api.OK || got != want || loss.Cmp(whole(got.Lo)) < 0 || loss.Cmp(whole(got.Hi)) > 0 {
			t.Fatal(n, losses, got, want, loss, e)
		}
	}
}

// P3.6: the saturated branches of the examples, and at their limits.
func TestSaturatedIn(t *testing.T) {
	for _, x := range []struct {
		net    string
		limits []int
		want   []int
	}{
		{third, []int{2, 2, 1}, []int{0}},
		{third, []int{3, 2, 1}, []int{}},
		{third, []int{2, 1, 0}, []int{0, 1, 2}},
		{third, []int{100000, 1, 0}, []int{1, 2}},
		{ring, []int{2, 2}, []int{}},
		{ring, []int{1, 2}, []int{0}},
		{"2,0 1 3 -10,1 0 2 0", []int{2, 1}, []int{1}},
		{"2,0 1 3 1,1 0 2 0", []int{0, 1}, []int{0}},
		{"2,0 1 3 1", []int{0}, []int{}},
		{"1", nil, []int{}},
	} {
		if l, e := field.SaturatedIn(net(t, x.net), x.limits); e != api.OK || !reflect.DeepEqual(append([]int{}, l...), x.want) {
			t.Error(x, l, e)
		}
	}
	for _, x := range badLists(3, 0, 100000) {
		if l, e := field.SaturatedIn(net(t, third), x.list); e != x.want || l != nil {
			t.Error(x, l, e)
		}
	}
	refuse(t, "SaturatedIn", func(n api.FieldNet) (bool, api.Errno) {
		l, e := field.SaturatedIn(n, []int{-1})
		return l == nil, e
	})
}

// P3.13: a branch is not saturated exactly if its flux is from the opposite of its limit to its limit.
func TestSaturatedByFlux(t *testing.T) {
	r := numbers(7)
	for range 1000 {
		n := randomNet(&r, 3)
		limits := randomList(&r, len(n.Branches), 0, 12)
		_, fluxes := solved(n, turnsOf(n))
		want := []int{}
		for i, f := range fluxes {
			if f.Cmp(whole(-limits[i])) < 0 || f.Cmp(whole(limits[i])) > 0 {
				want = append(want, i)
			}
		}
		if l, e := field.SaturatedIn(n, limits); e != api.OK || !reflect.DeepEqual(append([]int{}, l...), want) {
			t.Fatal(n, limits, l, want, e)
		}
	}
}

// P3.12: all ampere turns times a whole number.
func TestSuperposition(t *testing.T) {
	r := numbers(8)
	for range 1000 {
		n := randomNet(&r, 20)
		factor := r.from(-10, 10)
		turns, more := randomList(&r, len(n.Branches), -5, 5), make([]int, len(n.Branches))
		for i := range turns {
			more[i] = factor * turns[i]
		}
		one, _ := field.SolutionOf(withTurns(n, turns))
		all, _ := field.SolutionOf(withTurns(n, more))
		for i := range turns {
			if rat(all.Fluxes[i], all.Den).Cmp(rat(factor*one.Fluxes[i], one.Den)) != 0 {
				t.Fatal(n, turns, factor, one, all)
			}
		}
		a, e := field.EnergyOf(withTurns(n, turns))
		b, f := field.EnergyOf(withTurns(n, more))
		if e == api.OK && f == api.OK && times(whole(factor*factor), ratOf(a)).Cmp(ratOf(b)) != 0 {
			t.Fatal(n, turns, factor, a, b)
		}
	}
}
