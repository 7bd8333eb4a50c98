package works_test

import (
	"slices"
	"testing"

	"buchholz/api"
	"buchholz/works"
)

// apart returns whether the neighbouring offsets of a stack differ by at least so much.
func apart(offsets []int, overlap int) bool {
	for i, a := range offsets {
		b := offsets[0]
		if i+1 < len(offsets) {
			b = offsets[i+1]
		}
		if len(offsets) > 1 && a-b < overlap && b-a < overlap {
			return false
		}
	}
	return true
}

// badSizes returns numbers of offsets and overlaps, of which one or both are wrong.
func badSizes() [][2]int {
	var l [][2]int
	for _, count := range []int{-1, 0, 9, least, greatest} {
		l = append(l, [2]int{count, 0}, [2]int{count, 8}, [2]int{count, -1}, [2]int{count, 9})
	}
	for _, overlap := range []int{-1, 9, least, greatest} {
		l = append(l, [2]int{1, overlap}, [2]int{8, overlap})
	}
	return l
}

// P7.5: stacks that overlap, and what is wrong with others.
func TestCheckStack(t *testing.T) {
	for _, x := range []struct {
		offsets []int
		overlap int
		index   int
		want    api.Errno
	}{
		{[]int{0, 2, 4, 1, 3}, 2, 0, api.OK},
		{[]int{0, 2, 4, 1, 3}, 0, 0, api.OK},
		{[]int{0, 2, 4, 1, 3}, 3, 1, api.ErrGap}, // the first offset differs by 3 from the last one, the next one by 2
		{[]int{0, 1, 2, 3}, 1, 0, api.OK},
		{[]int{0, 1, 2, 3}, 2, 1, api.ErrGap},
		{[]int{0, 2, 1, 3}, 2, 2, api.ErrGap},
		{[]int{0, 3, 1, 2}, 2, 3, api.ErrGap},
		{[]int{0, 2, 3, 1}, 2, 0, api.ErrGap}, // of the first offset: from the last one
		{[]int{3, 1, 0, 2}, 2, 0, api.ErrGap},
		{[]int{0}, 0, 0, api.OK},
		{[]int{0}, 1, 0, api.OK}, // a stack of one overlaps by any number
		{[]int{0}, 8, 0, api.OK},
		{[]int{0, 1}, 1, 0, api.OK},
		{[]int{1, 0}, 1, 0, api.OK},
		{[]int{1, 0}, 2, 0, api.ErrGap},
		{[]int{0, 4, 1, 5, 2, 6, 3, 7}, 3, 0, api.OK},
		{[]int{0, 4, 1, 5, 2, 6, 3, 7}, 4, 2, api.ErrGap},
		{[]int{7, 6, 5, 4, 3, 2, 1, 0}, 1, 0, api.OK},
		{[]int{7, 6, 5, 4, 3, 2, 1, 0}, 8, 0, api.ErrGap},
		{nil, 0, 0, api.ErrRange},
		{[]int{}, 1, 0, api.ErrRange},
		{all(9), 0, 0, api.ErrRange},
		{make([]int, 9), 0, 0, api.ErrRange},
		{make([]int, 100000), 0, 0, api.ErrRange},
		{[]int{0, 1}, -1, 0, api.ErrRange},
		{[]int{0, 1}, 9, 0, api.ErrRange},
		{[]int{1, 1}, 9, 0, api.ErrRange}, // before the errors of the offsets
		{[]int{0, 1, 3}, 0, 2, api.ErrRange},
		{[]int{0, -1, 3}, 0, 1, api.ErrRange},
		{[]int{least, 0}, 0, 0, api.ErrRange},
		{[]int{0, greatest}, 0, 1, api.ErrRange},
		{[]int{1}, 0, 0, api.ErrRange},
		{[]int{1, 2, 3}, 0, 2, api.ErrRange},
		{[]int{0, 1, 0}, 0, 2, api.ErrDouble},
		{[]int{1, 1, 9}, 0, 1, api.ErrDouble}, // offset by offset
		{[]int{1, 9, 1}, 0, 1, api.ErrRange},
		{[]int{0, 1, 1}, 2, 2, api.ErrDouble}, // before ErrGap
		{[]int{0, 1, 3}, 8, 2, api.ErrRange},
		{all(8), 8, 0, api.ErrGap},
	} {
		if i, e := works.CheckStack(x.offsets, x.overlap); i != x.index || e != x.want {
			t.Error(x.offsets[:min(9, len(x.offsets))], x.overlap, i, e)
		}
	}
}

// P7.5: all orders of some numbers, checked by the definition.
func TestAllStacks(t *testing.T) {
	for count := 1; count <= 6; count++ {
		for _, offsets := range permutations(count) {
			for overlap := range 9 {
				i, e := works.CheckStack(offsets, overlap)
				if (e == api.OK) != apart(offsets, overlap) || e != api.OK && e != api.ErrGap || e == api.OK && i != 0 {
					t.Fatal(offsets, overlap, i, e)
				}
				if e == api.ErrGap {
					before := append([]int{offsets[count-1]}, offsets...)
					for j := range i + 1 {
						if differs := max(before[j]-before[j+1], before[j+1]-before[j]) >= overlap; differs == (j == i) {
							t.Fatal(offsets, overlap, i, j)
						}
					}
				}
			}
		}
	}
}

// P7.5: the first stack, and the number of all, of all orders.
func TestStacks(t *testing.T) {
	for count := 1; count <= 8; count++ {
		orders := permutations(count)
		for overlap := range 9 {
			var first []int
			number, want := 0, api.ErrNone
			for _, offsets := range orders {
				if apart(offsets, overlap) {
					if number == 0 {
						first, want = offsets, api.OK
					}
					number++
				}
			}
			if l, e := works.StackFor(count, overlap); e != want || !slices.Equal(l, first) {
				t.Error(count, overlap, l, e, first)
			}
			if n, e := works.StacksOf(count, overlap); e != api.OK || n != number {
				t.Error(count, overlap, n, e, number)
			}
			if number%2 == 1 && count > 1 { // P7.12
				t.Error(count, overlap, number)
			}
		}
	}
}

// P7.5: the examples, and stacks of one and two offsets.
func TestFewStacks(t *testing.T) {
	for _, x := range []struct {
		count, overlap int
		first          []int
		number         int
	}{
		{4, 1, []int{0, 1, 2, 3}, 24},
		{4, 2, nil, 0},
		{5, 2, []int{0, 2, 4, 1, 3}, 10},
		{1, 0, []int{0}, 1},
		{1, 8, []int{0}, 1},
		{2, 1, []int{0, 1}, 2},
		{2, 2, nil, 0},
		{3, 1, []int{0, 1, 2}, 6},
		{8, 0, []int{0, 1, 2, 3, 4, 5, 6, 7}, 40320},
		{8, 8, nil, 0},
	} {
		l, e := works.StackFor(x.count, x.overlap)
		n, f := works.StacksOf(x.count, x.overlap)
		if !slices.Equal(l, x.first) || (e == api.ErrNone) != (x.number == 0) || e != api.OK && e != api.ErrNone || n != x.number || f != api.OK {
			t.Error(x, l, e, n, f)
		}
	}
}

// P7.5: the errors of the number and the overlap.
func TestStackErrors(t *testing.T) {
	for _, x := range badSizes() {
		if l, e := works.StackFor(x[0], x[1]); len(l) != 0 || e != api.ErrRange {
			t.Error(x, l, e)
		}
		if n, e := works.StacksOf(x[0], x[1]); n != 0 || e != api.ErrRange {
			t.Error(x, n, e)
		}
	}
}

// P7.12: the opposite order overlaps as much, and so does what is left to the greatest offset.
func TestOppositeStacks(t *testing.T) {
	for count := 1; count <= 6; count++ {
		for _, offsets := range permutations(count) {
			back, rest := slices.Clone(offsets), slices.Clone(offsets)
			slices.Reverse(back)
			for i, offset := range offsets {
				rest[i] = count - 1 - offset
			}
			for overlap := range 9 {
				_, e := works.CheckStack(offsets, overlap)
				_, f := works.CheckStack(back, overlap)
				_, g := works.CheckStack(rest, overlap)
				if e != f || e != g {
					t.Fatal(offsets, overlap, e, f, g)
				}
			}
		}
	}
}
