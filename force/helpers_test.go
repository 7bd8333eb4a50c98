package force_test

import (
	"math"
	"math/big"
	"slices"
	"testing"

	"buchholz/api"
	"buchholz/force"
)

const (
	least    = math.MinInt
	greatest = math.MaxInt
)

// first is the window of the first example.
const first = "4 4 ; -2 -6"

// numbers is a sequence of numbers that look as if they were random, and are always the same ones.
type numbers uint64

// below returns a number from 0 to n - 1.
func (r *numbers) below(n int) int {
	*r = *r*6364136223846793005 + 1442695040888963407
	return int(uint64(*r) >> 33 % uint64(n))
}

// from returns a number from lo to hi.
func (r *numbers) from(lo, hi int) int {
	return lo + r.below(hi-lo+1)
}

// list returns so many numbers from lo to hi.
func (r *numbers) list(count, lo, hi int) []int {
	l := make([]int, count)
	for i := range l {
		l[i] = r.from(lo, hi)
	}
	return l
}

// between returns a range of numbers from lo to hi, which is often a single one.
func (r *numbers) between(lo, hi int) api.Range {
	a, b := r.from(lo, hi), r.from(lo, hi)
	if r.below(3) == 0 {
		b = a
	}
	return span(min(a, b), max(a, b))
}

// span returns a range.
func span(lo, hi int) api.Range {
	return api.Range{Lo: lo, Hi: hi}
}

// frac returns the fraction num/den as it is.
func frac(num, den int) api.Frac {
	return api.Frac{Num: num, Den: den}
}

// rat returns num/den.
func rat(num, den int) *big.Rat {
	return big.NewRat(int64(num), int64(den))
}

func whole(n int) *big.Rat         { return rat(n, 1) }
func times(a, b *big.Rat) *big.Rat { return new(big.Rat).Mul(a, b) }
func over(a, b *big.Rat) *big.Rat  { return new(big.Rat).Quo(a, b) }

// isRat returns whether a fraction is this number in lowest terms.
func isRat(f api.Frac, x *big.Rat) bool {
	return x.Num().IsInt64() && x.Denom().IsInt64() && f == frac(int(x.Num().Int64()), int(x.Denom().Int64()))
}

// window returns the window with a string.
func window(t *testing.T, s string) api.ForceWindow {
	t.Helper()
	w, e := force.ParseWindow(s)
	if e != api.OK {
		t.Fatal(s, e)
	}
	return w
}

// windowOf returns a window with these ampere turns.
func windowOf(inner, outer []int) api.ForceWindow {
	return api.ForceWindow{Inner: inner, Outer: outer}
}

// isSame returns whether two windows have the same ampere turns.
func isSame(a, b api.ForceWindow) bool {
	return slices.Equal(a.Inner, b.Inner) && slices.Equal(a.Outer, b.Outer)
}

// sum returns the sum of numbers.
func sum(l ...int) int {
	all := 0
	for _, n := range l {
		all += n
	}
	return all
}

// balance changes some of the numbers, within this size, so that their sum becomes a given one.
func balance(r *numbers, l []int, size, want int) {
	for sum(l...) != want {
		i := r.below(len(l))
		l[i] = min(max(l[i]+want-sum(l...), -size), size)
	}
}

// randomWindow returns a valid window of so many levels with ampere turns of at most this size.
func randomWindow(r *numbers, levels, size int) api.ForceWindow {
	l := r.list(2*levels, -size, size)
	balance(r, l, size, 0)
	return windowOf(slices.Clone(l[:levels]), slices.Clone(l[levels:]))
}

// anyWindow returns a valid window, up to the limits or with small numbers.
func anyWindow(r *numbers) api.ForceWindow {
	return randomWindow(r, r.from(1, 15), []int{2, 10, 100}[r.below(3)])
}

// residualsBy returns the residuals, each as a sum of its own.
func residualsBy(w api.ForceWindow) []int {
	var l []int
	for k := range len(w.Inner) + 1 {
		l = append(l, sum(w.Inner[:k]...)+sum(w.Outer[:k]...))
	}
	return l
}

// axialBy returns the axial forces of a winding.
func axialBy(w api.ForceWindow, turns []int) []int {
	residuals := residualsBy(w)
	var l []int
	for k, n := range turns {
		l = append(l, n*residuals[k]+n*residuals[k+1])
	}
	return l
}

// thrustsBy returns the thrusts of a winding, each as a sum of its own.
func thrustsBy(w api.ForceWindow, turns []int) []int {
	forces := axialBy(w, turns)
	var l []int
	for k := range len(forces) + 1 {
		l = append(l, sum(forces[:k]...))
	}
	return l
}

// radialBy returns the radial forces of the inner or the outer winding.
func radialBy(w api.ForceWindow, outer bool) []int {
	var l []int
	for k, a := range w.Inner {
		b := w.Outer[k]
		if outer {
			l = append(l, b*b-a*b)
		} else {
			l = append(l, a*a-a*b)
		}
	}
	return l
}

// unitBy returns the unit force of a kind.
func unitBy(w api.ForceWindow, kind int) int {
	var l []int
	switch kind {
	case api.ForceInnerThrust:
		l = thrustsBy(w, w.Inner)
	case api.ForceOuterThrust:
		l = thrustsBy(w, w.Outer)
	case api.ForceInnerRadial:
		l = radialBy(w, false)
	case api.ForceOuterRadial:
		l = radialBy(w, true)
	}
	most := 0
	for _, n := range l {
		if n < 0 {
			n = -n
		}
		most = max(most, n)
	}
	return most
}

// shiftedBy returns the window shifted, level by level.
func shiftedBy(w api.ForceWindow, by int) api.ForceWindow {
	at := func(l []int, k int) int {
		if k < 0 || k >= len(l) {
			return 0
		}
		return l[k]
	}
	size := max(by, -by)
	var s api.ForceWindow
	for k := range len(w.Inner) + size {
		inner, outer := k, k-by
		if by < 0 {
			inner, outer = k+by, k
		}
		s.Inner = append(s.Inner, at(w.Inner, inner))
		s.Outer = append(s.Outer, at(w.Outer, outer))
	}
	return s
}

type badWindow struct {
	window api.ForceWindow
	want   api.Errno
}

// badWindows returns windows that are not valid.
func badWindows() []badWindow {
	zeros := func(n int) []int { return make([]int, n) }
	with := func(n, at, levels int) []int {
		l := zeros(levels)
		l[at] = n
		return l
	}
	l := []badWindow{
		{api.ForceWindow{}, api.ErrShape},
		{windowOf([]int{}, []int{}), api.ErrShape},
		{windowOf(nil, zeros(1)), api.ErrShape},
		{windowOf(zeros(1), nil), api.ErrShape},
		{windowOf([]int{101}, nil), api.ErrShape},
		{windowOf(zeros(2), zeros(1)), api.ErrShape},
		{windowOf(zeros(1), []int{101, 0}), api.ErrShape},
		{windowOf(zeros(16), zeros(15)), api.ErrShape},
		{windowOf(zeros(15), zeros(16)), api.ErrShape},
		{windowOf(zeros(17), zeros(16)), api.ErrShape},
		{windowOf(zeros(16), zeros(16)), api.ErrLarge},
		{windowOf(with(101, 0, 16), zeros(16)), api.ErrLarge},
		{windowOf(zeros(16), with(101, 15, 16)), api.ErrLarge},
		{windowOf(zeros(100), with(1, 15, 100)), api.ErrLarge},
		{windowOf([]int{1}, []int{0}), api.ErrClash},
		{windowOf([]int{0}, []int{-1}), api.ErrClash},
		{windowOf([]int{5}, []int{5}), api.ErrClash},
		{windowOf([]int{100, 100}, []int{-100, -99}), api.ErrClash},
		{windowOf([]int{4, 4}, []int{-2, -7}), api.ErrClash},
		{windowOf(with(1, 14, 15), zeros(15)), api.ErrClash},
		{windowOf(zeros(15), with(1, 14, 15)), api.ErrClash},
		{windowOf([]int{greatest, 1}, []int{least, 0}), api.ErrRange},
	}
	for _, n := range []int{101, -101, 1000, least, greatest} {
		l = append(l,
			badWindow{windowOf([]int{n}, []int{0}), api.ErrRange},
			badWindow{windowOf([]int{0}, []int{n}), api.ErrRange},
			badWindow{windowOf([]int{n}, []int{-n}), api.ErrRange},
			badWindow{windowOf(with(n, 14, 15), zeros(15)), api.ErrRange},
			badWindow{windowOf(zeros(15), with(n, 14, 15)), api.ErrRange},
			badWindow{windowOf([]int{1, n}, []int{2, 3}), api.ErrRange},
		)
	}
	return l
}

// refuse checks a function with each window that is not valid: it returns whether the result is a zero value, and the error.
func refuse(t *testing.T, name string, call func(api.ForceWindow) (bool, api.Errno)) {
	t.Helper()
	for _, x := range badWindows() {
		if zero, e := call(x.window); !zero || e != x.want {
			t.Error(name, x, zero, e)
		}
	}
}

// fifth returns the fault of the fifth example.
func fifth() api.ForceFault {
	return api.ForceFault{Voltage: span(100, 110), Impedance: span(20, 25), Factor: frac(5, 2)}
}

// randomFault returns a valid fault with voltages and impedances of at most so much.
func randomFault(r *numbers, most int) api.ForceFault {
	f := rat(r.from(1, 100), r.from(1, 100))
	return api.ForceFault{
		Voltage:   r.between(0, most),
		Impedance: r.between(1, most),
		Factor:    frac(int(f.Num().Int64()), int(f.Denom().Int64())),
	}
}

// anyFault returns a valid fault, up to the limits or with small numbers.
func anyFault(r *numbers) api.ForceFault {
	return randomFault(r, []int{3, 30, 1000}[r.below(3)])
}

// peakBy returns the peak of a fault from ends of its ranges.
func peakBy(f api.ForceFault, voltage, impedance int) *big.Rat {
	return times(rat(voltage, impedance), rat(f.Factor.Num, f.Factor.Den))
}

// forcesBy returns a unit times the squares of the lower and the upper end of the peak.
func forcesBy(f api.ForceFault, unit int) (lo, hi *big.Rat) {
	lo, hi = peakBy(f, f.Voltage.Lo, f.Impedance.Hi), peakBy(f, f.Voltage.Hi, f.Impedance.Lo)
	return times(whole(unit), times(lo, lo)), times(whole(unit), times(hi, hi))
}

// holdsBy returns whether a force with a unit holds a limit.
func holdsBy(f api.ForceFault, unit, limit int) int {
	lo, hi := forcesBy(f, unit)
	switch {
	case hi.Cmp(whole(limit)) <= 0:
		return api.AnswerYes
	case lo.Cmp(whole(limit)) > 0:
		return api.AnswerNo
	}
	return api.AnswerMaybe
}

type badFault struct {
	fault api.ForceFault
	want  api.Errno
}

// badFaults returns faults that are not valid.
func badFaults() []badFault {
	of := func(voltage, impedance api.Range, factor api.Frac) api.ForceFault {
		return api.ForceFault{Voltage: voltage, Impedance: impedance, Factor: factor}
	}
	v, z, one := span(1, 2), span(3, 4), frac(1, 1)
	l := []badFault{
		{api.ForceFault{}, api.ErrRange},
		{of(v, span(0, 4), one), api.ErrRange},
		{of(v, span(-1, 4), one), api.ErrRange},
		{of(v, span(4, 0), one), api.ErrRange},
		{of(span(-1, 2), z, one), api.ErrRange},
		{of(span(2, -1), z, one), api.ErrRange},
		{of(span(2, 1), span(0, 4), frac(2, 4)), api.ErrRange},
		{of(span(2, 1), span(4, 1001), frac(2, 4)), api.ErrRange},
		{of(span(2, 1), z, frac(2, 4)), api.ErrOrder},
		{of(v, span(4, 3), frac(0, 0)), api.ErrOrder},
		{of(span(1, 0), z, one), api.ErrOrder},
		{of(v, span(1000, 999), one), api.ErrOrder},
	}
	for _, n := range []int{1001, least, greatest} {
		l = append(l,
			badFault{of(span(n, 2), z, one), api.ErrRange},
			badFault{of(span(0, n), z, one), api.ErrRange},
			badFault{of(v, span(n, 4), one), api.ErrRange},
			badFault{of(v, span(3, n), one), api.ErrRange},
		)
	}
	for _, f := range [][2]int{{0, 0}, {1, 0}, {1, -1}, {-1, -1}, {0, 2}, {2, 2}, {5, 10}, {-2, 2}, {102, 102}, {200, 2}, {1, least}, {least, 2}, {least, least}, {greatest, greatest}, {0, -1}, {101, -1}} {
		l = append(l, badFault{of(v, z, frac(f[0], f[1])), api.ErrForm})
	}
	for _, f := range [][2]int{{0, 1}, {-1, 1}, {101, 1}, {1, 101}, {101, 102}, {-1, 2}, {least, 1}, {greatest, 1}, {1, greatest}, {greatest, 2}, {least, 3}} {
		l = append(l, badFault{of(v, z, frac(f[0], f[1])), api.ErrRange})
	}
	return l
}

// badUnits returns numbers that are not unit forces.
func badUnits() []int {
	return []int{-1, 10000001, least, greatest}
}

// roundedOf returns a number rounded towards 0.
func roundedOf(x *big.Rat) int {
	return int(new(big.Int).Quo(x.Num(), x.Denom()).Int64())
}
