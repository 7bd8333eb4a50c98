package field_test

import (
	"math"
	"math/big"
	"testing"

	"buchholz/api"
	"buchholz/field"
)

const (
	least    = math.MinInt
	greatest = math.MaxInt
)

// numbers is a sequence of numbers that look as if they were random, and are always the same ones.
type numbers uint64

// below returns a number from 0 to n - 1.
func (r *numbers) below(n int) int {
	*r = *r*6364136223846793005 + 1442695040888963407
	return int(uint64(*r) >> 33 % uint64(n))
}

// from returns a number from lo to hi.
func (r *numbers) from(lo, hi int) int {
	return lo + r.below(hi-lo+1)
}

// net returns the network with a string.
func net(t *testing.T, s string) api.FieldNet {
	t.Helper()
	n, e := field.ParseNet(s)
	if e != api.OK {
		t.Fatal(s, e)
	}
	return n
}

// branch returns a branch from a node to another one.
func branch(from, to, reluctance, turns int) api.FieldBranch {
	return api.FieldBranch{From: from, To: to, Reluctance: reluctance, Turns: turns}
}

// randomNet returns a valid network with reluctances of at most so much. Half of them have few nodes and many branches.
func randomNet(r *numbers, reluctance int) api.FieldNet {
	n := api.FieldNet{Nodes: r.from(1, 5)}
	count := r.below(8)
	if r.below(2) == 0 {
		n.Nodes, count = r.from(2, 3), 7
	}
	for range count {
		if from, to := r.below(n.Nodes), r.below(n.Nodes); from != to {
			n.Branches = append(n.Branches, branch(from, to, r.from(1, reluctance), r.from(-50, 50)))
		} else if n.Nodes > 1 {
			n.Branches = append(n.Branches, branch((from+1)%n.Nodes, to, r.from(1, reluctance), r.from(-50, 50)))
		}
	}
	return n
}

// randomList returns so many numbers from lo to hi.
func randomList(r *numbers, count, lo, hi int) []int {
	l := make([]int, count)
	for i := range l {
		l[i] = r.from(lo, hi)
	}
	return l
}

// randomCurve returns a valid curve whose numbers are small, or go up to the limit.
func randomCurve(r *numbers) api.FieldCurve {
	var c api.FieldCurve
	var p api.FieldPoint
	step := []int{3, 10, 125}[r.below(3)]
	for range r.from(1, 8) {
		p.Flux += r.from(1, step)
		p.Turns += r.from(1, step)
		c.Points = append(c.Points, p)
	}
	return c
}

// rat returns num/den.
func rat(num, den int) *big.Rat {
	return big.NewRat(int64(num), int64(den))
}

// ratOf returns a fraction, as a number without limits.
func ratOf(x api.Frac) *big.Rat {
	return rat(x.Num, x.Den)
}

func plus(a, b *big.Rat) *big.Rat  { return new(big.Rat).Add(a, b) }
func minus(a, b *big.Rat) *big.Rat { return new(big.Rat).Sub(a, b) }
func times(a, b *big.Rat) *big.Rat { return new(big.Rat).Mul(a, b) }
func over(a, b *big.Rat) *big.Rat  { return new(big.Rat).Quo(a, b) }
func whole(n int) *big.Rat         { return rat(n, 1) }
func square(a *big.Rat) *big.Rat   { return times(a, a) }

// checkFrac compares a result with a number, which is too large for a fraction or not.
func checkFrac(t *testing.T, got api.Frac, e api.Errno, want *big.Rat, about ...any) {
	t.Helper()
	limit := big.NewInt(api.MaxPart)
	if want.Num().CmpAbs(limit) > 0 || want.Denom().Cmp(limit) > 0 {
		if e != api.ErrLarge || got != (api.Frac{}) {
			t.Fatal(got, e, want, about)
		}
		return
	}
	if e != api.OK || got != (api.Frac{Num: int(want.Num().Int64()), Den: int(want.Denom().Int64())}) {
		t.Fatal(got, e, want, about)
	}
}

// reached returns which nodes branches connect with a node.
func reached(n api.FieldNet, from int) []bool {
	r := make([]bool, n.Nodes)
	r[from] = true
	for range n.Nodes {
		for _, b := range n.Branches {
			if r[b.From] || r[b.To] {
				r[b.From], r[b.To] = true, true
			}
		}
	}
	return r
}

// isLowest returns whether a node is the lowest one of its part.
func isLowest(n api.FieldNet, node int) bool {
	for i, r := range reached(n, node) {
		if r {
			return i == node
		}
	}
	return false
}

// solved returns the potentials and the fluxes of a network with the given ampere turns, by elimination in the equations of the nodes.
func solved(n api.FieldNet, turns []int) (potentials, fluxes []*big.Rat) {
	rows := make([][]*big.Rat, n.Nodes)
	for i := range rows {
		rows[i] = make([]*big.Rat, n.Nodes+1)
		for j := range rows[i] {
			rows[i][j] = new(big.Rat)
		}
	}
	for i, b := range n.Branches {
		g, drive := rat(1, b.Reluctance), rat(turns[i], b.Reluctance)
		for _, x := range [][2]int{{b.From, b.To}, {b.To, b.From}} {
			row := rows[x[0]]
			row[x[0]] = plus(row[x[0]], g)
			row[x[1]] = minus(row[x[1]], g)
		}
		rows[b.From][n.Nodes] = minus(rows[b.From][n.Nodes], drive)
		rows[b.To][n.Nodes] = plus(rows[b.To][n.Nodes], drive)
	}
	for i := range rows {
		if isLowest(n, i) {
			for j := range rows[i] {
				rows[i][j] = new(big.Rat)
			}
			rows[i][i] = whole(1)
		}
	}
	eliminate(rows)
	for i := range rows {
		potentials = append(potentials, rows[i][n.Nodes])
	}
	for i, b := range n.Branches {
		drop := plus(minus(potentials[b.From], potentials[b.To]), whole(turns[i]))
		fluxes = append(fluxes, over(drop, whole(b.Reluctance)))
	}
	return potentials, fluxes
}

// eliminate turns equations with one solution into that solution, in the last column.
func eliminate(rows [][]*big.Rat) {
	for i := range rows {
		for j := i; rows[i][i].Sign() == 0; j++ {
			rows[i], rows[j] = rows[j], rows[i]
		}
		pivot := rows[i][i]
		for k := range rows[i] {
			rows[i][k] = over(rows[i][k], pivot)
		}
		for j := range rows {
			if factor := rows[j][i]; j != i && factor.Sign() != 0 {
				for k := range rows[j] {
					rows[j][k] = minus(rows[j][k], times(factor, rows[i][k]))
				}
			}
		}
	}
}

// turnsOf returns the ampere turns of all branches.
func turnsOf(n api.FieldNet) []int {
	var l []int
	for _, b := range n.Branches {
		l = append(l, b.Turns)
	}
	return l
}

// withTurns returns a network with other ampere turns.
func withTurns(n api.FieldNet, turns []int) api.FieldNet {
	c := api.FieldNet{Nodes: n.Nodes}
	for i, b := range n.Branches {
		b.Turns = turns[i]
		c.Branches = append(c.Branches, b)
	}
	return c
}

// withReluctances returns a network with other reluctances.
func withReluctances(n api.FieldNet, l []int) api.FieldNet {
	c := api.FieldNet{Nodes: n.Nodes}
	for i, b := range n.Branches {
		b.Reluctance = l[i]
		c.Branches = append(c.Branches, b)
	}
	return c
}

// linked returns the sum of turns times flux.
func linked(turns []int, fluxes []*big.Rat) *big.Rat {
	sum := new(big.Rat)
	for i, f := range fluxes {
		sum = plus(sum, times(whole(turns[i]), f))
	}
	return sum
}

// energyBySum returns the energy of a network.
func energyBySum(n api.FieldNet) *big.Rat {
	_, fluxes := solved(n, turnsOf(n))
	return linked(turnsOf(n), fluxes)
}

// mutualBySum returns the mutual inductance of two windings.
func mutualBySum(n api.FieldNet, a, b []int) *big.Rat {
	_, fluxes := solved(n, a)
	return linked(b, fluxes)
}

// upperBySum returns the upper bound of potentials.
func upperBySum(n api.FieldNet, g api.FieldGuess) *big.Rat {
	sum := new(big.Rat)
	for _, b := range n.Branches {
		drop := plus(rat(g.Values[b.From]-g.Values[b.To], g.Den), whole(b.Turns))
		sum = plus(sum, over(square(drop), whole(b.Reluctance)))
	}
	return sum
}

// lowerBySum returns the lower bound of fluxes.
func lowerBySum(n api.FieldNet, g api.FieldGuess) *big.Rat {
	sum := new(big.Rat)
	for i, b := range n.Branches {
		flux := rat(g.Values[i], g.Den)
		sum = plus(sum, times(whole(2*b.Turns), flux))
		sum = minus(sum, times(whole(b.Reluctance), square(flux)))
	}
	return sum
}

// randomFluxes returns balanced fluxes that are a guess: those of the network with other ampere turns, over a denominator of their own. It returns false if they are too large for one.
func randomFluxes(r *numbers, n api.FieldNet) (api.FieldGuess, bool) {
	s, _ := field.SolutionOf(withTurns(n, randomList(r, len(n.Branches), -50, 50)))
	g := api.FieldGuess{Den: r.from(1, 100), Values: s.Fluxes}
	for i := range g.Values {
		if max(g.Values[i], -g.Values[i]) > api.MaxFieldValue {
			return g, false
		}
	}
	return g, true
}

// dropBySteps returns the drop of a curve at a flux.
func dropBySteps(c api.FieldCurve, flux *big.Rat) *big.Rat {
	if flux.Sign() < 0 {
		return minus(new(big.Rat), dropBySteps(c, minus(new(big.Rat), flux)))
	}
	var from api.FieldPoint
	sum := new(big.Rat)
	for i, to := range c.Points {
		end := whole(to.Flux)
		if i == len(c.Points)-1 || flux.Cmp(end) < 0 {
			end = flux
		}
		slope := rat(to.Turns-from.Turns, to.Flux-from.Flux)
		sum = plus(sum, times(slope, minus(end, whole(from.Flux))))
		if end == flux {
			return sum
		}
		from = to
	}
	return sum
}

type badNet struct {
	net   api.FieldNet
	index int
	want  api.Errno
}

// badNets returns networks that are not valid, of each wrong branch one with valid branches before it.
func badNets() []badNet {
	good := branch(0, 1, 1, 50)
	l := []badNet{
		{api.FieldNet{}, 0, api.ErrRange},
		{api.FieldNet{Nodes: -1}, 0, api.ErrRange},
		{api.FieldNet{Nodes: 6}, 0, api.ErrRange},
		{api.FieldNet{Nodes: least}, 0, api.ErrRange},
		{api.FieldNet{Nodes: greatest, Branches: make([]api.FieldBranch, 8)}, 0, api.ErrRange},
		{api.FieldNet{Nodes: 5, Branches: make([]api.FieldBranch, 8)}, 0, api.ErrLarge},
		{api.FieldNet{Nodes: 1, Branches: []api.FieldBranch{good}}, 0, api.ErrMissing},
	}
	for _, x := range []struct {
		b    api.FieldBranch
		want api.Errno
	}{
		{branch(-1, 1, 0, 51), api.ErrMissing},
		{branch(0, -1, 0, 51), api.ErrMissing},
		{branch(3, 1, 1, 0), api.ErrMissing},
		{branch(0, 3, 1, 0), api.ErrMissing},
		{branch(3, 3, 0, 0), api.ErrMissing},
		{branch(-1, -1, 1, 0), api.ErrMissing},
		{branch(least, greatest, 1, 0), api.ErrMissing},
		{branch(0, 0, 0, 51), api.ErrForm},
		{branch(2, 2, 1, 0), api.ErrForm},
		{branch(0, 1, 0, 0), api.ErrRange},
		{branch(0, 1, -1, 0), api.ErrRange},
		{branch(0, 1, 21, 0), api.ErrRange},
		{branch(0, 1, least, 0), api.ErrRange},
		{branch(0, 1, 1, 51), api.ErrRange},
		{branch(0, 1, 1, -51), api.ErrRange},
		{branch(0, 1, 1, least), api.ErrRange},
		{branch(0, 1, 1, greatest), api.ErrRange},
	} {
		l = append(l,
			badNet{api.FieldNet{Nodes: 3, Branches: []api.FieldBranch{x.b}}, 0, x.want},
			badNet{api.FieldNet{Nodes: 3, Branches: []api.FieldBranch{good, good, x.b, {}}}, 2, x.want},
		)
	}
	return l
}

// refuse checks a function with each network that is not valid: it returns whether the result is a zero value, and the error.
func refuse(t *testing.T, name string, call func(api.FieldNet) (bool, api.Errno)) {
	t.Helper()
	for _, x := range badNets() {
		if zero, e := call(x.net); !zero || e != x.want {
			t.Error(name, x, zero, e)
		}
	}
}

type badList struct {
	list []int
	want api.Errno
}

// badLists returns lists that are not so many numbers from lo to hi, for a count of at least 2.
func badLists(count, lo, hi int) []badList {
	list := func(ends ...int) []int {
		l := make([]int, count)
		l[0], l[count-1] = ends[0], ends[1]
		return l
	}
	return []badList{
		{nil, api.ErrShape},
		{make([]int, count-1), api.ErrShape},
		{append(list(least, least), 0), api.ErrShape},
		{list(lo-1, 0), api.ErrRange},
		{list(0, lo-1), api.ErrRange},
		{list(hi+1, 0), api.ErrRange},
		{list(0, hi+1), api.ErrRange},
		{list(0, least), api.ErrRange},
		{list(greatest, 0), api.ErrRange},
	}
}

type badGuess struct {
	guess api.FieldGuess
	want  api.Errno
}

// badGuesses returns guesses that are not of so many numbers, for a count of at least 2.
func badGuesses(count int) []badGuess {
	l := []badGuess{
		{api.FieldGuess{}, api.ErrRange},
		{api.FieldGuess{Den: -1, Values: make([]int, count)}, api.ErrRange},
		{api.FieldGuess{Den: 101, Values: make([]int, count)}, api.ErrRange},
		{api.FieldGuess{Den: least, Values: make([]int, count)}, api.ErrRange},
	}
	for _, x := range badLists(count, -1000, 1000) {
		l = append(l, badGuess{api.FieldGuess{Den: 100, Values: x.list}, x.want})
	}
	return l
}

type badRanges struct {
	ranges []api.Range
	want   api.Errno
}

// allBadRanges returns ranges that are not those of three reluctances.
func allBadRanges() []badRanges {
	good := api.Range{Lo: 1, Hi: 20}
	l := []badRanges{
		{nil, api.ErrShape},
		{[]api.Range{good, good}, api.ErrShape},
		{[]api.Range{{}, good, good, good}, api.ErrShape},
		{[]api.Range{{Lo: 2, Hi: 1}, {}, good}, api.ErrOrder},
		{[]api.Range{{Lo: 1, Hi: 0}, {Lo: 2, Hi: 1}, good}, api.ErrRange},
	}
	for _, x := range []struct {
		r    api.Range
		want api.Errno
	}{
		{api.Range{Lo: 0, Hi: 1}, api.ErrRange},
		{api.Range{Lo: 1, Hi: 0}, api.ErrRange},
		{api.Range{Lo: 1, Hi: 21}, api.ErrRange},
		{api.Range{Lo: 21, Hi: 20}, api.ErrRange},
		{api.Range{Lo: least, Hi: greatest}, api.ErrRange},
		{api.Range{Lo: 20, Hi: 19}, api.ErrOrder},
	} {
		l = append(l,
			badRanges{[]api.Range{x.r, good, good}, x.want},
			badRanges{[]api.Range{good, good, x.r}, x.want},
		)
	}
	return l
}

type badCurve struct {
	curve api.FieldCurve
	index int
	want  api.Errno
}

// curve returns a curve whose points have the given fluxes and ampere turns.
func curve(l ...int) api.FieldCurve {
	var c api.FieldCurve
	for i := 0; i < len(l); i += 2 {
		c.Points = append(c.Points, api.FieldPoint{Flux: l[i], Turns: l[i+1]})
	}
	return c
}

// badCurves returns curves that are not valid.
func badCurves() []badCurve {
	return []badCurve{
		{api.FieldCurve{}, 0, api.ErrShape},
		{api.FieldCurve{Points: []api.FieldPoint{}}, 0, api.ErrShape},
		{api.FieldCurve{Points: make([]api.FieldPoint, 9)}, 0, api.ErrLarge},
		{curve(0, 1), 0, api.ErrRange},
		{curve(1, 0), 0, api.ErrRange},
		{curve(1001, 1), 0, api.ErrRange},
		{curve(1, 1001), 0, api.ErrRange},
		{curve(least, 1), 0, api.ErrRange},
		{curve(1, greatest), 0, api.ErrRange},
		{curve(5, 5, 0, 0), 1, api.ErrRange},
		{curve(5, 5, 4, 1001), 1, api.ErrRange},
		{curve(5, 5, 6, 6, 1001, 7), 2, api.ErrRange},
		{curve(5, 5, 6, 6, -7, 7), 2, api.ErrRange},
		{curve(5, 5, 5, 6), 1, api.ErrOrder},
		{curve(5, 5, 6, 5), 1, api.ErrOrder},
		{curve(5, 5, 4, 6, 0, 0), 1, api.ErrOrder},
		{curve(5, 5, 6, 4), 1, api.ErrOrder},
		{curve(5, 5, 6, 6, 7, 6), 2, api.ErrOrder},
		{curve(5, 5, 7, 7, 6, 8), 2, api.ErrOrder},
	}
}
