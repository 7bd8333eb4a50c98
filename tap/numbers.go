package tap

import "buchholz/api"

// divisor returns the greatest common divisor of two numbers that are not both 0.
func divisor(a, b int) int {
	for b != 0 {
		a, b = b, a%b
	}
	return max(a, -a)
}

// reduced returns num/den in lowest terms, for den above 0.
func reduced(num, den int) api.Frac {
	d := divisor(num, den)
	return api.Frac{Num: num / d, Den: den / d}
}

// whole returns a whole number as a fraction.
func whole(n int) api.Frac {
	return api.Frac{Num: n, Den: 1}
}

// sumOf returns the sum of fractions.
func sumOf(l ...api.Frac) api.Frac {
	sum := whole(0)
	for _, f := range l {
		sum = reduced(sum.Num*f.Den+f.Num*sum.Den, sum.Den*f.Den)
	}
	return sum
}

// negative returns a fraction with the other sign.
func negative(f api.Frac) api.Frac {
	return api.Frac{Num: -f.Num, Den: f.Den}
}

// sizeOf returns the size of a fraction.
func sizeOf(f api.Frac) api.Frac {
	return api.Frac{Num: max(f.Num, -f.Num), Den: f.Den}
}

// squareOf returns the square of a fraction in lowest terms.
func squareOf(f api.Frac) api.Frac {
	return api.Frac{Num: f.Num * f.Num, Den: f.Den * f.Den}
}

// isAbove returns whether a fraction is greater than a whole number.
func isAbove(f api.Frac, limit int) bool {
	return f.Num > limit*f.Den
}

// isTooLarge returns whether a fraction from 0 on has a part above MaxPart.
func isTooLarge(f api.Frac) bool {
	return max(f.Num, f.Den) > api.MaxPart
}
