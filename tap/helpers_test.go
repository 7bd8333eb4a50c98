package tap_test

import (
	"math"
	"math/big"
	"testing"

	"buchholz/api"
	"buchholz/tap"
)

const (
	least    = math.MinInt
	greatest = math.MaxInt
)

// The machine of the examples: without guards, with those of the fourth example, and with the last one of these corrected.
const (
	bare  = "3 t0r0 t0r2 t1r2 t1r0"
	early = bare + " -0/2/12 +2/2/9 -1/4/9 +3/4/1"
	late  = bare + " -0/2/12 +2/2/9 -1/4/9 +3/4/3"
)

// usual returns the limits of the examples.
func usual() api.TapLimits {
	return api.TapLimits{Voltage: 12, Load: span(0, 10), Circulating: 4, Break: 10, Return: 30}
}

// numbers is a sequence of numbers that look as if they were random, and are always the same ones.
type numbers uint64

// below returns a number from 0 to n - 1.
func (r *numbers) below(n int) int {
	*r = *r*6364136223846793005 + 1442695040888963407
	return int(uint64(*r) >> 33 % uint64(n))
}

// from returns a number from lo to hi.
func (r *numbers) from(lo, hi int) int {
	return lo + r.below(hi-lo+1)
}

// between returns a range of numbers from lo to hi, which is often a single one.
func (r *numbers) between(lo, hi int) api.Range {
	a, b := r.from(lo, hi), r.from(lo, hi)
	if r.below(3) == 0 {
		b = a
	}
	return span(min(a, b), max(a, b))
}

// span returns a range.
func span(lo, hi int) api.Range {
	return api.Range{Lo: lo, Hi: hi}
}

// frac returns the fraction num/den as it is.
func frac(num, den int) api.Frac {
	return api.Frac{Num: num, Den: den}
}

// fracs returns fractions from their parts.
func fracs(parts ...int) []api.Frac {
	var l []api.Frac
	for i := 0; i < len(parts); i += 2 {
		l = append(l, frac(parts[i], parts[i+1]))
	}
	return l
}

// rat returns num/den.
func rat(num, den int) *big.Rat {
	return big.NewRat(int64(num), int64(den))
}

func whole(n int) *big.Rat         { return rat(n, 1) }
func plus(a, b *big.Rat) *big.Rat  { return new(big.Rat).Add(a, b) }
func minus(a, b *big.Rat) *big.Rat { return new(big.Rat).Sub(a, b) }
func times(a, b *big.Rat) *big.Rat { return new(big.Rat).Mul(a, b) }
func over(a, b *big.Rat) *big.Rat  { return new(big.Rat).Quo(a, b) }
func size(a *big.Rat) *big.Rat     { return new(big.Rat).Abs(a) }

// above returns whether a number is greater than a whole one.
func above(x *big.Rat, n int) bool {
	return x.Cmp(whole(n)) > 0
}

// isRat returns whether a fraction is this number in lowest terms, with parts of at most MaxPart.
func isRat(f api.Frac, x *big.Rat) bool {
	return fits(x) && f == frac(int(x.Num().Int64()), int(x.Denom().Int64()))
}

// fits returns whether no part of a number exceeds MaxPart.
func fits(x *big.Rat) bool {
	most := big.NewInt(api.MaxPart)
	return x.Num().CmpAbs(most) <= 0 && x.Denom().CmpAbs(most) <= 0
}

// machine returns the machine with a string.
func machine(t *testing.T, s string) api.TapMachine {
	t.Helper()
	m, e := tap.ParseMachine(s)
	if e != api.OK {
		t.Fatal(s, e)
	}
	return m
}

// randomMachine returns a valid machine, whose guards ask for few contacts.
func randomMachine(r *numbers, resistances int) api.TapMachine {
	n := r.from(1, 6)
	var m api.TapMachine
	for range n {
		b := api.TapBranch{Tap: r.below(2), Resistance: r.from(1, resistances)}
		if r.below(4) == 0 {
			b.Resistance = 0
		}
		m.Branches = append(m.Branches, b)
	}
	m.Start = r.below(1 << n)
	for range r.below([]int{2, 5, 10, 31}[r.below(4)]) {
		all := 1<<n - 1
		m.Guards = append(m.Guards, api.TapGuard{
			Contact: r.below(n),
			Closes:  r.below(2) == 0,
			Closed:  r.below(all+1) & r.below(all+1),
			Open:    r.below(all+1) & r.below(all+1),
		})
	}
	return m
}

// randomLimits returns valid limits with numbers of at most so much.
func randomLimits(r *numbers, most int) api.TapLimits {
	return api.TapLimits{
		Voltage:     r.from(0, most),
		Load:        r.between(-most, most),
		Circulating: r.from(0, most),
		Break:       r.from(0, most),
		Return:      r.from(0, most),
	}
}

// wide returns limits that small currents and voltages do not break.
func wide() api.TapLimits {
	return api.TapLimits{Voltage: 10, Load: span(-10, 10), Circulating: 1000, Break: 1000, Return: 1000}
}

// closedIn returns the closed contacts of a state.
func closedIn(m api.TapMachine, state int) []int {
	var l []int
	for i := range m.Branches {
		if state/(1<<i)%2 == 1 {
			l = append(l, i)
		}
	}
	return l
}

// voltageOf returns the voltage of the tap of a contact.
func voltageOf(m api.TapMachine, l api.TapLimits, contact int) *big.Rat {
	return whole([]int{0, l.Voltage}[m.Branches[contact].Tap])
}

// knownBy returns the error of currents.
func knownBy(m api.TapMachine, state int) api.Errno {
	direct := map[int]int{}
	for _, i := range closedIn(m, state) {
		if m.Branches[i].Resistance == 0 {
			direct[m.Branches[i].Tap]++
		}
	}
	switch {
	case len(closedIn(m, state)) == 0:
		return api.ErrOpen
	case len(direct) == 2:
		return api.ErrClash
	case direct[0]+direct[1] == 2, direct[0]+direct[1] > 2:
		return api.ErrDouble
	}
	return api.OK
}

// outputBy returns the voltage of the output.
func outputBy(m api.TapMachine, l api.TapLimits, state, load int) *big.Rat {
	sum, all := whole(-load), new(big.Rat)
	for _, i := range closedIn(m, state) {
		r := m.Branches[i].Resistance
		if r == 0 {
			return voltageOf(m, l, i)
		}
		sum = plus(sum, over(voltageOf(m, l, i), whole(r)))
		all = plus(all, rat(1, r))
	}
	return over(sum, all)
}

// currentsBy returns the current of each contact.
func currentsBy(m api.TapMachine, l api.TapLimits, state, load int) []*big.Rat {
	output := outputBy(m, l, state, load)
	currents := make([]*big.Rat, len(m.Branches))
	for i := range currents {
		currents[i] = new(big.Rat)
	}
	left, direct := whole(load), -1
	for _, i := range closedIn(m, state) {
		r := m.Branches[i].Resistance
		if r == 0 {
			direct = i
			continue
		}
		currents[i] = over(minus(voltageOf(m, l, i), output), whole(r))
		left = minus(left, currents[i])
	}
	if direct >= 0 {
		currents[direct] = left
	}
	return currents
}

// circulatingBy returns the circulating current.
func circulatingBy(m api.TapMachine, l api.TapLimits, state int) *big.Rat {
	sum := new(big.Rat)
	for i, x := range currentsBy(m, l, state, 0) {
		if m.Branches[i].Tap == 1 {
			sum = plus(sum, x)
		}
	}
	return size(sum)
}

// safeBy returns the error of a state.
func safeBy(m api.TapMachine, l api.TapLimits, state int) api.Errno {
	if e := knownBy(m, state); e != api.OK {
		return e
	}
	if above(circulatingBy(m, l, state), l.Circulating) {
		return api.ErrBreak
	}
	return api.OK
}

// mayBy returns whether a contact may change.
func mayBy(m api.TapMachine, state, contact int) bool {
	isClosed := map[int]bool{}
	for _, i := range closedIn(m, state) {
		isClosed[i] = true
	}
	for _, g := range m.Guards {
		may := g.Contact == contact && g.Closes != isClosed[contact]
		for _, i := range closedIn(m, g.Closed) {
			may = may && isClosed[i]
		}
		for _, i := range closedIn(m, g.Open) {
			may = may && !isClosed[i]
		}
		if may {
			return true
		}
	}
	return false
}

// after returns the state after a change.
func after(m api.TapMachine, state, contact int) int {
	for _, i := range closedIn(m, state) {
		if i == contact {
			return state - 1<<contact
		}
	}
	return state + 1<<contact
}

// moveBy returns the error of a change.
func moveBy(m api.TapMachine, l api.TapLimits, state, contact int) api.Errno {
	next := after(m, state, contact)
	switch {
	case !mayBy(m, state, contact):
		return api.ErrAllowed
	case knownBy(m, state) != api.OK:
		return knownBy(m, state)
	case safeBy(m, l, next) != api.OK:
		return safeBy(m, l, next)
	case next > state:
		return api.OK
	}
	for _, load := range []int{l.Load.Lo, l.Load.Hi} {
		if above(size(currentsBy(m, l, state, load)[contact]), l.Break) {
			return api.ErrBreak
		}
		if above(size(minus(voltageOf(m, l, contact), outputBy(m, l, next, load))), l.Return) {
			return api.ErrRefused
		}
	}
	return api.OK
}
