package surge_test

import (
	"math"
	"math/big"
	"testing"

	"buchholz/api"
	"buchholz/surge"
)

const (
	least    = math.MinInt
	greatest = math.MaxInt
)

// numbers is a sequence of numbers that look as if they were random, and are always the same ones.
type numbers uint64

// below returns a number from 0 to n - 1.
func (r *numbers) below(n int) int {
	*r = *r*6364136223846793005 + 1442695040888963407
	return int(uint64(*r) >> 33 % uint64(n))
}

// from returns a number from lo to hi.
func (r *numbers) from(lo, hi int) int {
	return lo + r.below(hi-lo+1)
}

// list returns so many numbers from lo to hi.
func (r *numbers) list(count, lo, hi int) []int {
	l := make([]int, count)
	for i := range l {
		l[i] = r.from(lo, hi)
	}
	return l
}

// frac returns the fraction num/den as it is.
func frac(num, den int) api.Frac {
	return api.Frac{Num: num, Den: den}
}

// fracs returns the fractions whose numerators and denominators are given.
func fracs(l ...int) []api.Frac {
	var f []api.Frac
	for i := 0; i < len(l); i += 2 {
		f = append(f, frac(l[i], l[i+1]))
	}
	return f
}

// lowest returns num/den in lowest terms.
func lowest(num, den int) api.Frac {
	x := rat(num, den)
	return frac(int(x.Num().Int64()), int(x.Denom().Int64()))
}

// rat returns num/den.
func rat(num, den int) *big.Rat {
	return big.NewRat(int64(num), int64(den))
}

// ratOf returns a fraction, as a number without limits.
func ratOf(x api.Frac) *big.Rat {
	return rat(x.Num, x.Den)
}

func plus(a, b *big.Rat) *big.Rat  { return new(big.Rat).Add(a, b) }
func minus(a, b *big.Rat) *big.Rat { return new(big.Rat).Sub(a, b) }
func times(a, b *big.Rat) *big.Rat { return new(big.Rat).Mul(a, b) }
func over(a, b *big.Rat) *big.Rat  { return new(big.Rat).Quo(a, b) }
func size(a *big.Rat) *big.Rat     { return new(big.Rat).Abs(a) }
func whole(n int) *big.Rat         { return rat(n, 1) }

// isLarge returns whether a part of a number exceeds MaxPart.
func isLarge(x *big.Rat) bool {
	limit := big.NewInt(api.MaxPart)
	return x.Num().CmpAbs(limit) > 0 || x.Denom().Cmp(limit) > 0
}

// anyLarge returns whether a part of one of the numbers exceeds MaxPart.
func anyLarge(l []*big.Rat) bool {
	for _, x := range l {
		if isLarge(x) {
			return true
		}
	}
	return false
}

// isRat returns whether a fraction is this number in lowest terms.
func isRat(f api.Frac, x *big.Rat) bool {
	return !isLarge(x) && f == frac(int(x.Num().Int64()), int(x.Denom().Int64()))
}

// checkFracs compares results with numbers. They are refused if this is said, or if one of them is too large.
func checkFracs(t *testing.T, got []api.Frac, e api.Errno, want []*big.Rat, refused bool, about ...any) {
	t.Helper()
	if refused || anyLarge(want) {
		if e != api.ErrLarge || len(got) != 0 {
			t.Fatal(got, e, want, about)
		}
		return
	}
	if e != api.OK || len(got) != len(want) {
		t.Fatal(got, e, want, about)
	}
	for i, f := range got {
		if !isRat(f, want[i]) {
			t.Fatal(i, got, want, about)
		}
	}
}

// checkSpan compares a span with two numbers.
func checkSpan(t *testing.T, got api.Span, e api.Errno, lo, hi *big.Rat, about ...any) {
	t.Helper()
	if isLarge(lo) || isLarge(hi) {
		if e != api.ErrLarge || got != (api.Span{}) {
			t.Fatal(got, e, lo, hi, about)
		}
		return
	}
	if e != api.OK || !isRat(got.Lo, lo) || !isRat(got.Hi, hi) {
		t.Fatal(got, e, lo, hi, about)
	}
}

// ladder returns the ladder with a string.
func ladder(t *testing.T, s string) api.SurgeLadder {
	t.Helper()
	l, e := surge.ParseLadder(s)
	if e != api.OK {
		t.Fatal(s, e)
	}
	return l
}

// randomLadder returns a valid ladder with capacitances of at most so much.
func randomLadder(r *numbers, capacitance int) api.SurgeLadder {
	n := r.from(1, 6)
	return api.SurgeLadder{
		Series:  r.list(n, 1, capacitance),
		Earth:   r.list(n, 0, capacitance),
		Turns:   r.list(n, 1, []int{3, 1000}[r.below(2)]),
		Earthed: r.below(2) == 0,
	}
}

// solved returns the initial voltages of a ladder, by elimination in the equations of all nodes.
func solved(l api.SurgeLadder) []*big.Rat {
	n := len(l.Series)
	rows := make([][]*big.Rat, n+1)
	for i := range rows {
		rows[i] = make([]*big.Rat, n+2)
		for j := range rows[i] {
			rows[i][j] = new(big.Rat)
		}
	}
	for i, series := range l.Series {
		c := whole(series)
		rows[i][i] = plus(rows[i][i], c)
		rows[i][i+1] = minus(rows[i][i+1], c)
		rows[i+1][i+1] = plus(rows[i+1][i+1], c)
		rows[i+1][i] = minus(rows[i+1][i], c)
		rows[i+1][i+1] = plus(rows[i+1][i+1], whole(l.Earth[i]))
	}
	setNode(rows, 0, 1)
	if l.Earthed {
		setNode(rows, n, 0)
	}
	eliminate(rows)
	var u []*big.Rat
	for _, row := range rows {
		u = append(u, row[n+1])
	}
	return u
}

// setNode replaces the equation of a node by a voltage.
func setNode(rows [][]*big.Rat, node, voltage int) {
	for j := range rows[node] {
		rows[node][j] = new(big.Rat)
	}
	rows[node][node] = whole(1)
	rows[node][len(rows)] = whole(voltage)
}

// eliminate turns equations with one solution into that solution, in the last column.
func eliminate(rows [][]*big.Rat) {
	for i := range rows {
		for j := i; rows[i][i].Sign() == 0; j++ {
			rows[i], rows[j] = rows[j], rows[i]
		}
		pivot := rows[i][i]
		for k := range rows[i] {
			rows[i][k] = over(rows[i][k], pivot)
		}
		for j := range rows {
			if factor := rows[j][i]; j != i && factor.Sign() != 0 {
				for k := range rows[j] {
					rows[j][k] = minus(rows[j][k], times(factor, rows[i][k]))
				}
			}
		}
	}
}

// finalBySum returns the final voltages of a ladder.
func finalBySum(l api.SurgeLadder) []*big.Rat {
	all := 0
	for _, n := range l.Turns {
		all += n
	}
	var u []*big.Rat
	for node := range len(l.Turns) + 1 {
		before := 0
		for _, n := range l.Turns[:node] {
			before += n
		}
		if !l.Earthed {
			before = 0
		}
		u = append(u, minus(whole(1), rat(before, all)))
	}
	return u
}

type badLadder struct {
	ladder api.SurgeLadder
	want   api.Errno
}

// badLadders returns ladders that are not valid.
func badLadders() []badLadder {
	ones := func(n int) []int {
		l := make([]int, n)
		for i := range l {
			l[i] = 1
		}
		return l
	}
	of := func(series, earth, turns []int) api.SurgeLadder {
		return api.SurgeLadder{Series: series, Earth: earth, Turns: turns, Earthed: len(series) == 2}
	}
	l := []badLadder{
		{api.SurgeLadder{}, api.ErrShape},
		{api.SurgeLadder{Earthed: true}, api.ErrShape},
		{of([]int{}, []int{}, []int{}), api.ErrShape},
		{of(nil, ones(1), ones(1)), api.ErrShape},
		{of(ones(1), nil, ones(1)), api.ErrShape},
		{of(ones(1), ones(1), nil), api.ErrShape},
		{of(make([]int, 2), ones(1), ones(2)), api.ErrShape},
		{of(make([]int, 2), ones(2), ones(3)), api.ErrShape},
		{of(ones(7), ones(6), ones(7)), api.ErrShape},
		{of(ones(7), ones(7), ones(6)), api.ErrShape},
		{of(make([]int, 7), make([]int, 7), make([]int, 7)), api.ErrLarge},
		{of(ones(7), ones(7), ones(7)), api.ErrLarge},
	}
	for _, x := range [][3]int{
		{0, 0, 1}, {-1, 0, 1}, {101, 0, 1}, {least, 0, 1}, {greatest, 0, 1},
		{1, -1, 1}, {1, 101, 1}, {1, least, 1}, {1, greatest, 1},
		{1, 0, 0}, {1, 0, -1}, {1, 0, 1001}, {1, 0, least}, {1, 0, greatest},
	} {
		l = append(l,
			badLadder{of([]int{x[0]}, []int{x[1]}, []int{x[2]}), api.ErrRange},
			badLadder{of([]int{100, x[0]}, []int{100, x[1]}, []int{1000, x[2]}), api.ErrRange},
			badLadder{of([]int{1, x[0], 1}, []int{0, x[1], 0}, []int{1, x[2], 1}), api.ErrRange},
		)
	}
	return l
}

// refuse checks a function with each ladder that is not valid: it returns whether the result is a zero value, and the error.
func refuse(t *testing.T, name string, call func(api.SurgeLadder) (bool, api.Errno)) {
	t.Helper()
	for _, x := range badLadders() {
		if zero, e := call(x.ladder); !zero || e != x.want {
			t.Error(name, x, zero, e)
		}
	}
}

// points returns the impulse whose times and voltages are given.
func points(l ...int) api.SurgeImpulse {
	var x api.SurgeImpulse
	for i := 0; i < len(l); i += 2 {
		x.Points = append(x.Points, api.SurgePoint{Time: l[i], Voltage: l[i+1]})
	}
	return x
}

type badImpulse struct {
	impulse api.SurgeImpulse
	index   int
	want    api.Errno
}

// badImpulses returns impulses that are not valid.
func badImpulses() []badImpulse {
	return []badImpulse{
		{api.SurgeImpulse{}, 0, api.ErrShape},
		{api.SurgeImpulse{Points: []api.SurgePoint{}}, 0, api.ErrShape},
		{points(0, 0), 0, api.ErrShape},
		{points(-1, 0), 0, api.ErrShape},
		{api.SurgeImpulse{Points: make([]api.SurgePoint, 13)}, 0, api.ErrLarge},
		{api.SurgeImpulse{Points: make([]api.SurgePoint, 12)}, 1, api.ErrOrder},
		{points(-1, 0, 1, 0), 0, api.ErrRange},
		{points(1000001, 0, 1, 0), 0, api.ErrRange},
		{points(least, 0, 1, 0), 0, api.ErrRange},
		{points(0, 1000001, 1, 0), 0, api.ErrRange},
		{points(0, -1000001, 1, 0), 0, api.ErrRange},
		{points(0, least, 1, 0), 0, api.ErrRange},
		{points(0, greatest, 1, 0), 0, api.ErrRange},
		{points(0, 0, 1000001, 0), 1, api.ErrRange},
		{points(0, 0, 1, 1000001), 1, api.ErrRange},
		{points(5, 0, 4, 1000001), 1, api.ErrRange},
		{points(5, 0, -1, 0), 1, api.ErrRange},
		{points(5, 0, 5, 0), 1, api.ErrOrder},
		{points(5, 0, 4, 0, -1, 0), 1, api.ErrOrder},
		{points(5, 0, 6, 0, 7, 0, 7, 1), 3, api.ErrOrder},
		{points(5, 0, 6, 0, 7, 0, greatest, 1), 3, api.ErrRange},
	}
}

// randomImpulse returns a valid impulse, up to the limits or with small numbers.
func randomImpulse(r *numbers) api.SurgeImpulse {
	step, voltage := 3, 5
	if r.below(2) == 0 {
		step, voltage = 80000, 1000000
	}
	var x api.SurgeImpulse
	time := r.below(step)
	for range r.from(2, 12) {
		x.Points = append(x.Points, api.SurgePoint{Time: time, Voltage: r.from(-voltage, voltage)})
		time += r.from(1, step)
	}
	return x
}

// line returns an open line, or an earthed one.
func line(earthed bool, admittances ...int) api.SurgeLine {
	return api.SurgeLine{Admittances: admittances, Earthed: earthed}
}

// randomLine returns a valid line.
func randomLine(r *numbers) api.SurgeLine {
	return line(r.below(2) == 0, r.list(r.from(1, 10), 1, 20)...)
}

// randomState returns a valid state of a line with waves of at most so much.
func randomState(r *numbers, l api.SurgeLine, most int) api.SurgeState {
	n := len(l.Admittances)
	return api.SurgeState{Forward: r.list(n, -most, most), Back: r.list(n, -most, most)}
}

type badLine struct {
	line api.SurgeLine
	want api.Errno
}

// badLines returns lines that are not valid.
func badLines() []badLine {
	l := []badLine{
		{line(false), api.ErrShape},
		{line(true, []int{}...), api.ErrShape},
		{line(false, make([]int, 11)...), api.ErrLarge},
		{line(true, make([]int, 11)...), api.ErrLarge},
	}
	for _, y := range []int{0, -1, 21, least, greatest} {
		l = append(l,
			badLine{line(false, y), api.ErrRange},
			badLine{line(true, 1, y), api.ErrRange},
			badLine{line(true, 20, y, 1), api.ErrRange},
		)
	}
	return l
}

type badState struct {
	state api.SurgeState
	want  api.Errno
}

// badStates returns states that are not valid for a line of two sections.
func badStates() []badState {
	l := []badState{
		{api.SurgeState{}, api.ErrShape},
		{api.SurgeState{Forward: []int{0, 0}}, api.ErrShape},
		{api.SurgeState{Back: []int{0, 0}}, api.ErrShape},
		{api.SurgeState{Forward: []int{greatest}, Back: []int{0, 0}}, api.ErrShape},
		{api.SurgeState{Forward: []int{0, greatest}, Back: []int{0}}, api.ErrShape},
		{api.SurgeState{Forward: []int{0, 0, 0}, Back: []int{0, 0}}, api.ErrShape},
		{api.SurgeState{Forward: []int{0, 0}, Back: []int{0, 0, 0}}, api.ErrShape},
	}
	for _, n := range []int{1000001, -1000001, least, greatest} {
		l = append(l,
			badState{api.SurgeState{Forward: []int{n, 0}, Back: []int{0, 0}}, api.ErrRange},
			badState{api.SurgeState{Forward: []int{0, n}, Back: []int{0, 0}}, api.ErrRange},
			badState{api.SurgeState{Forward: []int{0, 0}, Back: []int{n, 0}}, api.ErrRange},
			badState{api.SurgeState{Forward: []int{0, 0}, Back: []int{0, n}}, api.ErrRange},
		)
	}
	return l
}
