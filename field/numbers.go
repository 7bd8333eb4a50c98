package field

import "buchholz/api"

// divisor returns the greatest common divisor of numbers, or 0 if all of them are 0.
func divisor(l ...int) int {
	d := 0
	for _, n := range l {
		for n != 0 {
			d, n = n, d%n
		}
	}
	return max(d, -d)
}

// fraction returns num/den in lowest terms, for den above 0. A fraction that is too large is refused.
func fraction(num, den int) (api.Frac, api.Errno) {
	d := divisor(num, den)
	num, den = num/d, den/d
	if max(num, -num, den) > api.MaxPart {
		return api.Frac{}, api.ErrLarge
	}
	return api.Frac{Num: num, Den: den}, api.OK
}

// rounded returns num/den, for den above 0, rounded down and up.
func rounded(num, den int) api.Range {
	r := api.Range{Lo: num / den, Hi: num / den}
	if num%den < 0 {
		r.Lo--
	}
	if num%den > 0 {
		r.Hi++
	}
	return r
}

// sumOf returns the sum of numbers.
func sumOf(l []int) int {
	sum := 0
	for _, n := range l {
		sum += n
	}
	return sum
}

// lower returns the lower end of a range.
func lower(r api.Range) int {
	return r.Lo
}

// upper returns the upper end of a range.
func upper(r api.Range) int {
	return r.Hi
}
