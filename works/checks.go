// Package works is chapter 7: drying, schedules with bounds, stacks of cores, and lots. See shared/doc/07-works.md.
package works

import (
	"slices"

	"buchholz/api"
)

// firstOf returns the first error, or OK.
func firstOf(l ...api.Errno) api.Errno {
	for _, e := range l {
		if e != api.OK {
			return e
		}
	}
	return api.OK
}

// errorOf returns an error without its index.
func errorOf(_ int, e api.Errno) api.Errno {
	return e
}

// outside returns the check that refuses numbers that are not from lo to hi with an error.
func outside(lo, hi int, e api.Errno) func(...int) api.Errno {
	return func(l ...int) api.Errno {
		for _, n := range l {
			if n < lo || n > hi {
				return e
			}
		}
		return api.OK
	}
}

// within returns the check that refuses numbers that are not from lo to hi.
func within(lo, hi int) func(...int) api.Errno {
	return outside(lo, hi, api.ErrRange)
}

// existing returns the check that refuses numbers that are not those of so many items.
func existing(items int) func(...int) api.Errno {
	return outside(0, items-1, api.ErrMissing)
}

// inOrder refuses a range whose lower end is greater than the upper one.
func inOrder(r api.Range) api.Errno {
	if r.Lo > r.Hi {
		return api.ErrOrder
	}
	return api.OK
}

// ascends refuses the number at an index if it is not greater than the one before.
func ascends(l []int, i int) api.Errno {
	if i > 0 && l[i] <= l[i-1] {
		return api.ErrOrder
	}
	return api.OK
}

// occursBefore refuses the item at an index if it occurs before.
func occursBefore[T comparable](l []T, i int) api.Errno {
	if slices.Contains(l[:i], l[i]) {
		return api.ErrDouble
	}
	return api.OK
}

// atMost refuses more items than most.
func atMost(n, most int) api.Errno {
	if n > most {
		return api.ErrLarge
	}
	return api.OK
}

// checkEach returns the index of the first item that is refused, and its error.
func checkEach[T any](l []T, check func(int, T) api.Errno) (int, api.Errno) {
	for i, item := range l {
		if e := check(i, item); e != api.OK {
			return i, e
		}
	}
	return 0, api.OK
}

// checkName refuses a string that is not a name.
func checkName(s string) api.Errno {
	if s == "" || len(s) > api.MaxName || !isLetter(s[0]) {
		return api.ErrName
	}
	for i := range len(s) {
		if !isLetter(s[i]) && !isDigit(s[i]) && s[i] != '-' {
			return api.ErrName
		}
	}
	return api.OK
}

func isLetter(c byte) bool {
	return c >= 'a' && c <= 'z' || c >= 'A' && c <= 'Z'
}

func isDigit(c byte) bool {
	return c >= '0' && c <= '9'
}
