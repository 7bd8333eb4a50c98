package surge_test

import (
	"math/big"
	"slices"
	"testing"

	"buchholz/api"
	"buchholz/surge"
)

// P4.1: distributions that are not the initial one.
func TestCheckInitial(t *testing.T) {
	for _, x := range []struct {
		ladder string
		u      []api.Frac
		index  int
		want   api.Errno
	}{
		{earthed, fracs(1, 1, 2, 5, 0, 1), 0, api.OK},
		{open, fracs(1, 1, 2, 3, 2, 3), 0, api.OK},
		{"5;5;1;open", fracs(1, 1, 1, 2), 0, api.OK},
		{"5;5;1;earthed", fracs(1, 1, 0, 1), 0, api.OK},
		{earthed, nil, 0, api.ErrShape},
		{earthed, fracs(), 0, api.ErrShape},
		{earthed, fracs(1, 1, 2, 5), 0, api.ErrShape},
		{earthed, fracs(1, 1, 2, 5, 0, 1, 0, 1), 0, api.ErrShape},
		{earthed, fracs(0, 0, 0, 0), 0, api.ErrShape},
		{earthed, fracs(2, 2, 2, 5, 0, 1), 0, api.ErrForm},
		{earthed, fracs(1, 0, 2, 5, 0, 1), 0, api.ErrForm},
		{earthed, fracs(0, 0, 2, 5, 0, 1), 0, api.ErrForm},
		{earthed, fracs(-1, -1, 2, 5, 0, 1), 0, api.ErrForm},
		{earthed, fracs(1, 1, 4, 10, 0, 1), 1, api.ErrForm},
		{earthed, fracs(1, 1, -2, -5, 0, 1), 1, api.ErrForm},
		{earthed, fracs(1, 1, least, least, 0, 1), 1, api.ErrForm},
		{earthed, fracs(1, 1, least, 2, 0, 1), 1, api.ErrForm},
		{earthed, fracs(1, 1, 2000000000, 2, 0, 1), 1, api.ErrForm},
		{earthed, fracs(1, 1, 2, 5, 0, 2), 2, api.ErrForm},
		{earthed, fracs(1, 1, 2, 5, 0, -1), 2, api.ErrForm},
		{earthed, fracs(1, 1, 2, 5, 0, 0), 2, api.ErrForm},
		{earthed, fracs(1000000001, 1, 2, 5, 0, 1), 0, api.ErrRange},
		{earthed, fracs(-1000000001, 1, 2, 5, 0, 0), 0, api.ErrRange},
		{earthed, fracs(1, 1, 1, 1000000001, 0, 1), 1, api.ErrRange},
		{earthed, fracs(1, 1, least, 1, 0, 1), 1, api.ErrRange},
		{earthed, fracs(1, 1, least, 3, 0, 1), 1, api.ErrRange},
		{earthed, fracs(1, 1, greatest, 1, 0, 1), 1, api.ErrRange},
		{earthed, fracs(1, 1, 1, greatest, 0, 0), 1, api.ErrRange},
		{earthed, fracs(2, 1, 2, 5, 0, 0), 2, api.ErrForm},
		{earthed, fracs(2, 1, 2, 5, 1, 1), 0, api.ErrProof},
		{earthed, fracs(1, 2, 1, 5, 0, 1), 0, api.ErrProof},
		{earthed, fracs(0, 1, 0, 1, 0, 1), 0, api.ErrProof},
		{earthed, fracs(-1, 1, -2, 5, 0, 1), 0, api.ErrProof},
		{earthed, fracs(1, 1, 1, 2, 0, 1), 1, api.ErrProof},
		{earthed, fracs(1, 1, -2, 5, 0, 1), 1, api.ErrProof},
		{earthed, fracs(1, 1, 2, 5, 1, 5), 1, api.ErrProof},
		{earthed, fracs(1, 1, 1, 2, 1, 4), 2, api.ErrProof}, // the equation of the node 1 holds
		{earthed, fracs(1, 1, 1000000000, 1, -999999999, 1000000000), 1, api.ErrProof},
		{open, fracs(1, 1, 2, 3, 0, 1), 1, api.ErrProof},
		{open, fracs(1, 1, 2, 5, 0, 1), 2, api.ErrProof}, // as if it were earthed
		{"5;5;1;open", fracs(1, 1, 0, 1), 1, api.ErrProof},
		{"5;5;1;open", fracs(1, 1, 1, 3), 1, api.ErrProof},
		{"5;5;1;earthed", fracs(1, 1, 1, 2), 1, api.ErrProof},
	} {
		if i, e := surge.CheckInitial(ladder(t, x.ladder), x.u); i != x.index || e != x.want {
			t.Error(x, i, e)
		}
	}
	refuse(t, "CheckInitial", func(l api.SurgeLadder) (bool, api.Errno) {
		i, e := surge.CheckInitial(l, fracs(0, 0, 0, 0, 0, 0))
		return i == 0, e
	})
}

// changed returns a fraction that differs from another one by a little.
func changed(r *numbers, f api.Frac) api.Frac {
	for {
		g := lowest(f.Num+r.from(-1, 1), max(1, f.Den+r.from(-1, 1)))
		if g != f && max(g.Num, -g.Num, g.Den) <= api.MaxPart {
			return g
		}
	}
}

// firstBroken returns the first node whose voltage or equation is wrong, or -1.
func firstBroken(l api.SurgeLadder, u []api.Frac) int {
	last := len(l.Series)
	for j := range u {
		sum := new(big.Rat)
		switch {
		case j == 0:
			sum = minus(ratOf(u[0]), whole(1))
		case j == last && l.Earthed:
			sum = ratOf(u[last])
		default:
			sum = times(whole(l.Earth[j-1]), ratOf(u[j]))
			sum = plus(sum, times(whole(l.Series[j-1]), minus(ratOf(u[j]), ratOf(u[j-1]))))
			if j < last {
				sum = plus(sum, times(whole(l.Series[j]), minus(ratOf(u[j]), ratOf(u[j+1]))))
			}
		}
		if sum.Sign() != 0 {
			return j
		}
	}
	return -1
}

// P4.9: CheckInitial accepts InitialOf, and nothing else.
func TestInitialIsProved(t *testing.T) {
	r := numbers(5)
	for i := range 1500 {
		l := randomLadder(&r, []int{3, 10, 30, 100}[i%4])
		u, e := surge.InitialOf(l)
		if e == api.ErrLarge {
			continue
		}
		if i, e := surge.CheckInitial(l, u); i != 0 || e != api.OK {
			t.Fatal(l, u, i, e)
		}
		for j := range u {
			v := slices.Clone(u)
			v[j] = changed(&r, v[j])
			if i, e := surge.CheckInitial(l, v); i != firstBroken(l, v) || e != api.ErrProof {
				t.Fatal(l, u, v, i, e)
			}
		}
		for range 3 {
			v := slices.Clone(u)
			for j := range v[1:] {
				v[j+1] = lowest(r.from(-1000000000, 1000000000), r.from(1, 1000000000))
			}
			if i, e := surge.CheckInitial(l, v); i != firstBroken(l, v) || e != api.ErrProof {
				t.Fatal(l, u, v, i, e)
			}
		}
	}
}

// moduli are primes just above MaxPart.
var moduli = []int{1000000007, 1000000009, 1000000021, 1000000033, 1000000087, 1000000093, 1000000097, 1000000103}

// P4.9: a sum that a prime divides is not 0.
func TestOnePrimeIsNotEnough(t *testing.T) {
	for _, p := range moduli {
		u := []api.Frac{frac(1, 1), lowest(999999999-p, 999999999)} // 100 times the Num minus the Den is 100 p in size
		if i, e := surge.CheckInitial(ladder(t, "100;0;1;open"), u); i != 1 || e != api.ErrProof {
			t.Error(p, u, i, e)
		}
	}
}

// P4.9: a sum that two primes divide is not 0. The sum of the node 2 of this ladder is made to be their product over the denominators, after the equation of the node 1 holds.
func TestTwoPrimesAreNotEnough(t *testing.T) {
	l := ladder(t, "1,1,1,1;0,0,0,0;1,1,1,1;earthed")
	for i, p := range moduli {
		for _, q := range moduli[:i] {
			u := fooling(t, p, q)
			if i, e := surge.CheckInitial(l, u); i != 2 || e != api.ErrProof {
				t.Error(p, q, u, i, e)
			}
		}
	}
}

// fooling returns voltages with 2 u[1] = u[0] + u[2], and 2 u[2] - u[1] - u[3] = p q over the denominators of u[1] and u[3].
func fooling(t *testing.T, p, q int) []api.Frac {
	t.Helper()
	den := 999999937
	product := p * q
	for first := 999999000; first < 1000000000; first++ { // 3 times u[1] minus 2, times its denominator
		num := (first + 2*den) / 3
		inverse := new(big.Int).ModInverse(big.NewInt(int64(first)), big.NewInt(int64(den)))
		if 3*num-2*den != first || inverse == nil {
			continue
		}
		lastDen := product % den * int(inverse.Int64()) % den
		if lastDen == 0 {
			continue
		}
		lastNum := (first*lastDen - product) / den
		u := []api.Frac{frac(1, 1), lowest(num, den), lowest(2*num-den, den), lowest(lastNum, lastDen), frac(0, 1)}
		sum := minus(minus(times(whole(2), ratOf(u[2])), ratOf(u[1])), ratOf(u[3]))
		if u[3].Den != lastDen || max(-lastNum, lastNum) > api.MaxPart || num > api.MaxPart {
			continue
		}
		if sum.Cmp(over(over(whole(product), whole(den)), whole(lastDen))) != 0 {
			t.Fatal(u, sum)
		}
		return u
	}
	t.Fatal("none", p, q)
	return nil
}
