package surge

import "buchholz/api"

// divisor returns the greatest common divisor of two numbers that are not both 0.
func divisor(a, b int) int {
	for b != 0 {
		a, b = b, a%b
	}
	return max(a, -a)
}

// sizeOf returns the size of a number.
func sizeOf(n int) int {
	return max(n, -n)
}

// reduced returns num/den in lowest terms, for den above 0.
func reduced(num, den int) api.Frac {
	d := divisor(num, den)
	return api.Frac{Num: num / d, Den: den / d}
}

// limited returns a fraction, or refuses one that is too large.
func limited(f api.Frac) (api.Frac, api.Errno) {
	if max(sizeOf(f.Num), f.Den) > api.MaxPart {
		return api.Frac{}, api.ErrLarge
	}
	return f, api.OK
}

// product returns the product of two fractions from 0 on that are in lowest terms but may be too large, as the product may.
func product(a, b api.Frac) (api.Frac, api.Errno) {
	// What both have in common is divided out crosswise: the product is in lowest terms then, and no less than any of these numbers.
	x, y := reduced(a.Num, b.Den), reduced(b.Num, a.Den)
	if max(x.Num, x.Den, y.Num, y.Den) > api.MaxPart {
		return api.Frac{}, api.ErrLarge
	}
	return limited(api.Frac{Num: x.Num * y.Num, Den: x.Den * y.Den})
}

// roundedDown returns num/den rounded down, for den above 0.
func roundedDown(num, den int) int {
	n := num / den
	if num%den < 0 {
		n--
	}
	return n
}
