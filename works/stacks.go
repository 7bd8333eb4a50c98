package works

import (
	"iter"
	"slices"

	"buchholz/api"
)

// checkSizes refuses a number of offsets, or an overlap.
func checkSizes(count, overlap int) api.Errno {
	return firstOf(within(1, api.MaxWorksStack)(count), within(0, api.MaxWorksStack)(overlap))
}

// overlaps returns whether two neighbouring offsets differ enough.
func overlaps(a, b, overlap int) bool {
	return max(a-b, b-a) >= overlap
}

// checkNeighbour refuses the offset at an index, if it does not differ enough from the one before it. Before the first one is the last one.
func checkNeighbour(offsets []int, i, overlap int) api.Errno {
	count := len(offsets)
	before := offsets[(i+count-1)%count]
	if count > 1 && !overlaps(before, offsets[i], overlap) {
		return api.ErrGap
	}
	return api.OK
}

// CheckStack accepts a stack that overlaps: it returns the index of the first wrong offset, and its error.
func CheckStack(offsets []int, overlap int) (int, api.Errno) {
	count := len(offsets)
	if e := checkSizes(count, overlap); e != api.OK {
		return 0, e
	}
	i, e := checkEach(offsets, func(i, offset int) api.Errno {
		return firstOf(within(0, count-1)(offset), occursBefore(offsets, i))
	})
	if e != api.OK {
		return i, e
	}
	return checkEach(offsets, func(i, _ int) api.Errno {
		return checkNeighbour(offsets, i, overlap)
	})
}

// stacks yields all stacks that overlap, in lexicographical order. It uses one slice for all of them.
func stacks(count, overlap int) iter.Seq[[]int] {
	return func(yield func([]int) bool) {
		var extend func([]int) bool
		extend = func(stack []int) bool { // it returns whether more stacks are wanted
			laid := len(stack)
			if laid == count {
				return checkNeighbour(stack, 0, overlap) != api.OK || yield(stack)
			}
			for offset := range count {
				fits := laid == 0 || overlaps(stack[laid-1], offset, overlap)
				if fits && !slices.Contains(stack, offset) && !extend(append(stack, offset)) {
					return false
				}
			}
			return true
		}
		extend(make([]int, 0, count))
	}
}

// StackFor returns the first stack that overlaps.
func StackFor(count, overlap int) ([]int, api.Errno) {
	if e := checkSizes(count, overlap); e != api.OK {
		return nil, e
	}
	for stack := range stacks(count, overlap) {
		return slices.Clone(stack), api.OK
	}
	return nil, api.ErrNone
}

// StacksOf returns the number of stacks that overlap.
func StacksOf(count, overlap int) (int, api.Errno) {
	if e := checkSizes(count, overlap); e != api.OK {
		return 0, e
	}
	number := 0
	for range stacks(count, overlap) {
		number++
	}
	return number, api.OK
}
