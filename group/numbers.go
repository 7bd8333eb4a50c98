package group

import "buchholz/api"

// divisor returns the greatest common divisor of two numbers that are not both 0.
func divisor(a, b int) int {
	for b != 0 {
		a, b = b, a%b
	}
	return max(a, -a)
}

// reduced returns num/den in lowest terms, for den above 0.
func reduced(num, den int) api.Frac {
	d := divisor(num, den)
	return api.Frac{Num: num / d, Den: den / d}
}

// modulo returns the remainder from 0 to m - 1, of negative numbers, too.
func modulo(n, m int) int {
	return (n%m + m) % m
}
