package group

import (
	"strconv"
	"strings"

	"buchholz/api"
)

// The letters of the kinds, in their order.
const (
	letters  = "ydz"
	capitals = "YDZ"
)

// maxDigits is how many digits a number in the string of a unit may have.
const maxDigits = 4

func letterOf(kind int) string {
	if checkKind(kind) != api.OK {
		return "?"
	}
	return letters[kind : kind+1]
}

// FormatUnit returns the string of a unit, whatever it is.
func FormatUnit(u api.GroupUnit) string {
	return formatWinding(u.High) + " " + formatWinding(u.Low) + " " + strconv.Itoa(u.Step)
}

func formatWinding(w api.GroupWinding) string {
	sign := "+"
	if w.Reversed {
		sign = "-"
	}
	return letterOf(w.Kind) + sign + strconv.Itoa(w.Shift) + "/" + strconv.Itoa(w.Turns)
}

// ParseUnit returns the unit with a string.
func ParseUnit(s string) (api.GroupUnit, api.Errno) {
	words := strings.SplitN(s, " ", 4)
	if len(words) != 3 {
		return api.GroupUnit{}, api.ErrSyntax
	}
	high, highIs := parseWinding(words[0])
	low, lowIs := parseWinding(words[1])
	step, stepIs := parseNumber(words[2])
	if !highIs || !lowIs || !stepIs {
		return api.GroupUnit{}, api.ErrSyntax
	}
	u := api.GroupUnit{High: high, Low: low, Step: step}
	if e := CheckUnit(u); e != api.OK {
		return api.GroupUnit{}, e
	}
	return u, api.OK
}

func parseWinding(s string) (api.GroupWinding, bool) {
	before, after, cut := strings.Cut(s, "/")
	if !cut || len(before) < 2 {
		return api.GroupWinding{}, false
	}
	kind := strings.IndexByte(letters, before[0])
	sign := before[1]
	shift, shiftIs := parseNumber(before[2:])
	turns, turnsIs := parseNumber(after)
	if kind < 0 || sign != '+' && sign != '-' || !shiftIs || !turnsIs {
		return api.GroupWinding{}, false
	}
	return api.GroupWinding{Kind: kind, Turns: turns, Shift: shift, Reversed: sign == '-'}, true
}

func parseNumber(s string) (int, bool) {
	if s == "" || len(s) > maxDigits || s[0] == '0' && len(s) > 1 {
		return 0, false
	}
	n := 0
	for i := range len(s) {
		if s[i] < '0' || s[i] > '9' {
			return 0, false
		}
		n = 10*n + int(s[i]-'0')
	}
	return n, true
}
