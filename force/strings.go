package force

import (
	"strconv"
	"strings"

	"buchholz/api"
)

const (
	separator = " ; " // between the windings of a window
	maxDigits = 3     // the digits of a number
)

// FormatWindow returns the string of a window, whatever it is.
func FormatWindow(w api.ForceWindow) string {
	return formatTurns(w.Inner) + separator + formatTurns(w.Outer)
}

func formatTurns(l []int) string {
	words := make([]string, len(l))
	for i, n := range l {
		words[i] = strconv.Itoa(n)
	}
	return strings.Join(words, " ")
}

// ParseWindow returns the window with a string.
func ParseWindow(s string) (api.ForceWindow, api.Errno) {
	before, after, is := strings.Cut(s, separator)
	if !is {
		return api.ForceWindow{}, api.ErrSyntax
	}
	var parts [windings][]int
	for i, part := range [windings]string{before, after} {
		if parts[i], is = parseTurns(part); !is {
			return api.ForceWindow{}, api.ErrSyntax
		}
	}
	w := api.ForceWindow{Inner: parts[inner], Outer: parts[outer]}
	if e := CheckWindow(w); e != api.OK {
		return api.ForceWindow{}, e
	}
	return w, api.OK
}

// parseTurns returns the numbers with a string. There is at least one: an empty word is not a number.
func parseTurns(s string) ([]int, bool) {
	var l []int
	for _, word := range strings.Split(s, " ") {
		n, is := parseNumber(word)
		if !is {
			return nil, false
		}
		l = append(l, n)
	}
	return l, true
}

func parseNumber(s string) (int, bool) {
	digits, isNegative := strings.CutPrefix(s, "-")
	if digits == "" || len(digits) > maxDigits || digits[0] == '0' && len(s) > 1 {
		return 0, false
	}
	n := 0
	for i := range len(digits) {
		if digits[i] < '0' || digits[i] > '9' {
			return 0, false
		}
		n = 10*n + int(digits[i]-'0')
	}
	if isNegative {
		n = -n
	}
	return n, true
}
