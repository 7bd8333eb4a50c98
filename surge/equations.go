package surge

import "buchholz/api"

// primes are four primes whose product is above 10^36.
var primes = [4]int{1000000007, 1000000009, 1000000021, 1000000033}

// term is a factor times a fraction.
type term struct {
	factor int
	of     api.Frac
}

// isZero returns whether a sum of at most three terms is 0.
//
// The sum times all denominators is a whole number. In an equation of a ladder it is at most 5 MaxSurgeCapacitance MaxPart^3 in size, which is less than 10^30: so it is 0 if all primes divide it.
func isZero(terms ...term) bool {
	for _, p := range primes {
		if remainder(p, terms) != 0 {
			return false
		}
	}
	return true
}

// remainder returns the remainder of a sum of terms times all their denominators.
func remainder(p int, terms []term) int {
	num, den := 0, 1
	for _, t := range terms {
		added := t.factor * t.of.Num % p
		num = (num*t.of.Den + added*den) % p
		den = den * t.of.Den % p
	}
	return num
}

// holdsAt returns whether a node has the voltage, or the equation, of the initial distribution.
func holdsAt(l api.SurgeLadder, u []api.Frac, node int) bool {
	last := len(l.Series)
	if node == 0 {
		return u[0] == api.Frac{Num: 1, Den: 1}
	}
	if node == last && l.Earthed {
		return u[last] == api.Frac{Num: 0, Den: 1}
	}
	before, earth := l.Series[node-1], l.Earth[node-1]
	if node == last {
		return isZero(term{before + earth, u[node]}, term{-before, u[node-1]})
	}
	after := l.Series[node]
	return isZero(term{before + after + earth, u[node]}, term{-before, u[node-1]}, term{-after, u[node+1]})
}

// CheckInitial accepts the initial distribution: otherwise it returns the index of the first wrong node, and the error.
func CheckInitial(l api.SurgeLadder, u []api.Frac) (int, api.Errno) {
	if e := CheckLadder(l); e != api.OK {
		return 0, e
	}
	if len(u) != len(l.Series)+1 {
		return 0, api.ErrShape
	}
	if i, e := checkFractions(u); e != api.OK {
		return i, e
	}
	for node := range len(u) {
		if !holdsAt(l, u, node) {
			return node, api.ErrProof
		}
	}
	return 0, api.OK
}
