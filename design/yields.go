package design

import "iter"

// choicesFrom yields all sequences of numbers from 0 to less than the counts, in lexicographical order. It uses one slice for all of them.
func choicesFrom(counts []int) iter.Seq[[]int] {
	return func(yield func([]int) bool) {
		choice := make([]int, len(counts))
		for more := true; more; more = nextChoice(choice, counts) {
			if !yield(choice) {
				return
			}
		}
	}
}

// nextChoice replaces a choice by the one after it, and returns whether there is one.
func nextChoice(choice, counts []int) bool {
	for i := len(choice) - 1; i >= 0; i-- {
		choice[i]++
		if choice[i] < counts[i] {
			return true
		}
		choice[i] = 0
	}
	return false
}

// setsFrom yields all sets of at most so many of the numbers from 0 to n - 1: by size, then in lexicographical order. It uses one slice for all sets of a size.
func setsFrom(n, most int) iter.Seq[[]int] {
	return func(yield func([]int) bool) {
		for size := range min(n, most) + 1 {
			set := make([]int, size)
			for i := range set {
				set[i] = i
			}
			for more := true; more; more = nextSet(set, n) {
				if !yield(set) {
					return
				}
			}
		}
	}
}

// nextSet replaces a set by the one of its size after it, and returns whether there is one.
func nextSet(set []int, n int) bool {
	for i := len(set) - 1; i >= 0; i-- {
		if set[i] == n-len(set)+i {
			continue
		}
		set[i]++
		for j := i + 1; j < len(set); j++ {
			set[j] = set[j-1] + 1
		}
		return true
	}
	return false
}

// picked returns the items with the indexes of a set.
func picked[T any](l []T, set []int) []T {
	var r []T
	for _, i := range set {
		r = append(r, l[i])
	}
	return r
}
