package surge

import (
	"strconv"
	"strings"

	"buchholz/api"
)

const (
	listCount = 3 // the lists of numbers of a ladder
	maxDigits = 4 // the digits of a number
)

// The last part of the string of a ladder.
const (
	earthedWord = "earthed"
	openWord    = "open"
)

// listsOf returns the places of the lists of a ladder, in the order of its string.
func listsOf(l *api.SurgeLadder) [listCount]*[]int {
	return [listCount]*[]int{&l.Series, &l.Earth, &l.Turns}
}

// FormatLadder returns the string of a ladder, whatever it is.
func FormatLadder(l api.SurgeLadder) string {
	var parts []string
	for _, list := range listsOf(&l) {
		parts = append(parts, formatList(*list))
	}
	word := openWord
	if l.Earthed {
		word = earthedWord
	}
	return strings.Join(append(parts, word), ";")
}

func formatList(l []int) string {
	words := make([]string, len(l))
	for i, n := range l {
		words[i] = strconv.Itoa(n)
	}
	return strings.Join(words, ",")
}

// ParseLadder returns the ladder with a string.
func ParseLadder(s string) (api.SurgeLadder, api.Errno) {
	if len(s) > api.MaxString {
		return api.SurgeLadder{}, api.ErrLarge
	}
	parts := strings.SplitN(s, ";", listCount+2)
	if len(parts) != listCount+1 {
		return api.SurgeLadder{}, api.ErrSyntax
	}
	word := parts[listCount]
	if word != earthedWord && word != openWord {
		return api.SurgeLadder{}, api.ErrSyntax
	}
	l := api.SurgeLadder{Earthed: word == earthedWord}
	for i, list := range listsOf(&l) {
		numbers, is := parseList(parts[i])
		if !is {
			return api.SurgeLadder{}, api.ErrSyntax
		}
		*list = numbers
	}
	if e := CheckLadder(l); e != api.OK {
		return api.SurgeLadder{}, e
	}
	return l, api.OK
}

// parseList returns the numbers with a string. An empty string is that of no numbers.
func parseList(s string) ([]int, bool) {
	if s == "" {
		return nil, true
	}
	var l []int
	for _, word := range strings.Split(s, ",") {
		n, is := parseNumber(word)
		if !is {
			return nil, false
		}
		l = append(l, n)
	}
	return l, true
}

func parseNumber(s string) (int, bool) {
	if s == "" || len(s) > maxDigits || s[0] == '0' && len(s) > 1 {
		return 0, false
	}
	n := 0
	for i := range len(s) {
		if !isDigit(s[i]) {
			return 0, false
		}
		n = 10*n + int(s[i]-'0')
	}
	return n, true
}
