package discharge

import (
	"iter"
	"slices"
	"sort"

	"buchholz/api"
)

// sizeOf returns the size of a number.
func sizeOf(n int) int {
	return max(n, -n)
}

// divisor returns the greatest common divisor of two numbers, or 0 if both are 0.
func divisor(a, b int) int {
	for b != 0 {
		a, b = b, a%b
	}
	return sizeOf(a)
}

// isReduced returns whether a fraction is in lowest terms with Den above 0.
func isReduced(f api.Frac) bool {
	return f.Den > 0 && divisor(f.Num, f.Den) == 1
}

// reduced returns num/den in lowest terms, for den above 0.
func reduced(num, den int) api.Frac {
	d := divisor(num, den)
	return api.Frac{Num: num / d, Den: den / d}
}

// isLess returns whether a fraction is less than another one.
func isLess(a, b api.Frac) bool {
	return a.Num*b.Den < b.Num*a.Den
}

// rootDown returns the square root of a number from 0 to 2^31, rounded down.
func rootDown(n int) int {
	return sort.Search(n+1, func(r int) bool { return r*r > n }) - 1
}

// rootUp returns the square root of a number from 0 to 2^31, rounded up.
func rootUp(n int) int {
	return sort.Search(n, func(r int) bool { return r*r >= n })
}

// setsOf yields all sets of the numbers from 0 to n - 1, the smaller ones first, and those of a size in lexicographic order. Each one is a slice of its own.
func setsOf(n int) iter.Seq[[]int] {
	return func(yield func([]int) bool) {
		sets := [][]int{nil}
		for len(sets) > 0 {
			var larger [][]int
			for _, set := range sets {
				if !yield(set) {
					return
				}
				for i := behind(set); i < n; i++ {
					larger = append(larger, append(slices.Clone(set), i))
				}
			}
			sets = larger
		}
	}
}

// behind returns the first number that is greater than all of a set.
func behind(set []int) int {
	if len(set) == 0 {
		return 0
	}
	return set[len(set)-1] + 1
}

// pairsOf yields all pairs of two different numbers of a set, each pair in both orders.
func pairsOf(set []int) iter.Seq2[int, int] {
	return func(yield func(int, int) bool) {
		for _, i := range set {
			for _, j := range set {
				if i != j && !yield(i, j) {
					return
				}
			}
		}
	}
}
