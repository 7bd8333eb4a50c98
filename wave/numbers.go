package wave

import "buchholz/api"

// divisor returns the greatest common divisor of two numbers, or 0 if both are 0.
func divisor(a, b int) int {
	for b != 0 {
		a, b = b, a%b
	}
	return max(a, -a)
}

// isReduced returns whether a fraction is in lowest terms with Den above 0.
func isReduced(f api.Frac) bool {
	return f.Den > 0 && divisor(f.Num, f.Den) == 1
}

// reduced returns num/den in lowest terms, for den above 0.
func reduced(num, den int) api.Frac {
	d := divisor(num, den)
	return api.Frac{Num: num / d, Den: den / d}
}

// product returns the product of two fractions.
func product(a, b api.Frac) api.Frac {
	return reduced(a.Num*b.Num, a.Den*b.Den)
}

// isLess returns whether a fraction is less than another one.
func isLess(a, b api.Frac) bool {
	return a.Num*b.Den < b.Num*a.Den
}

// lesser returns the lesser one of two fractions.
func lesser(a, b api.Frac) api.Frac {
	if isLess(b, a) {
		return b
	}
	return a
}

// greater returns the greater one of two fractions.
func greater(a, b api.Frac) api.Frac {
	if isLess(a, b) {
		return b
	}
	return a
}

// isTooLarge returns whether a fraction from 0 on has a part above MaxPart.
func isTooLarge(f api.Frac) bool {
	return max(f.Num, f.Den) > api.MaxPart
}

// roundedDown returns num/den rounded down, for den above 0.
func roundedDown(num, den int) int {
	n := num / den
	if num%den < 0 {
		n--
	}
	return n
}

// roundedUp returns num/den rounded up, for den above 0.
func roundedUp(num, den int) int {
	return -roundedDown(-num, den)
}

// rounded returns the range from lo/den, rounded down, to hi/den, rounded up, for den above 0.
func rounded(lo, hi, den int) api.Range {
	return api.Range{Lo: roundedDown(lo, den), Hi: roundedUp(hi, den)}
}

// around returns the range of what is known up to an error.
func around(n, by int) api.Range {
	return api.Range{Lo: n - by, Hi: n + by}
}
