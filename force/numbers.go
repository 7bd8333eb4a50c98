package force

import "buchholz/api"

// divisor returns the greatest common divisor of two numbers that are not both 0.
func divisor(a, b int) int {
	for b != 0 {
		a, b = b, a%b
	}
	return max(a, -a)
}

// reduced returns num/den in lowest terms, for den above 0.
func reduced(num, den int) api.Frac {
	d := divisor(num, den)
	return api.Frac{Num: num / d, Den: den / d}
}

// roundedUp returns num/den rounded up, for num from 0 on and den above 0.
func roundedUp(num, den int) int {
	return (num + den - 1) / den
}

// sumsOf returns the sums of the first numbers: of none, of one, and so on, up to all.
func sumsOf(l []int) []int {
	sums := make([]int, len(l)+1)
	for i, n := range l {
		sums[i+1] = sums[i] + n
	}
	return sums
}

// sumOf returns the sum of numbers.
func sumOf(l []int) int {
	return sumsOf(l)[len(l)]
}

// greatestSize returns the maximum size of numbers.
func greatestSize(l []int) int {
	most := 0
	for _, n := range l {
		most = max(most, n, -n)
	}
	return most
}

// around returns the range of what is known up to an error.
func around(n, by int) api.Range {
	return api.Range{Lo: n - by, Hi: n + by}
}

// plus returns the range of the sums of two ranges.
func plus(a, b api.Range) api.Range {
	return api.Range{Lo: a.Lo + b.Lo, Hi: a.Hi + b.Hi}
}

// times returns the range of the products of two ranges.
func times(a, b api.Range) api.Range {
	p, q, r, s := a.Lo*b.Lo, a.Lo*b.Hi, a.Hi*b.Lo, a.Hi*b.Hi
	return api.Range{Lo: min(p, q, r, s), Hi: max(p, q, r, s)}
}
