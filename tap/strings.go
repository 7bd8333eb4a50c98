package tap

import (
	"strconv"
	"strings"

	"buchholz/api"
)

const maxDigits = 4 // the digits of a number

// The marks of a word. Each number follows one of them.
const (
	tapMark        = "t"
	resistanceMark = "r"
	closesMark     = "+"
	opensMark      = "-"
	setMark        = "/"
)

// formatWord returns the word of numbers, each of which follows its mark.
func formatWord(numbers []int, marks ...string) string {
	word := ""
	for i, mark := range marks {
		word += mark + strconv.Itoa(numbers[i])
	}
	return word
}

// changeMark returns the first mark of a guard.
func changeMark(closes bool) string {
	if closes {
		return closesMark
	}
	return opensMark
}

// FormatMachine returns the string of a machine, whatever it is.
func FormatMachine(m api.TapMachine) string {
	words := []string{strconv.Itoa(m.Start)}
	for _, b := range m.Branches {
		words = append(words, formatWord([]int{b.Tap, b.Resistance}, tapMark, resistanceMark))
	}
	for _, g := range m.Guards {
		numbers := []int{g.Contact, g.Closed, g.Open}
		words = append(words, formatWord(numbers, changeMark(g.Closes), setMark, setMark))
	}
	return strings.Join(words, " ")
}

// ParseMachine returns the machine with a string.
func ParseMachine(s string) (api.TapMachine, api.Errno) {
	words := strings.Split(s, " ")
	start, is := parseWord(words[0], "")
	if !is {
		return api.TapMachine{}, api.ErrSyntax
	}
	m := api.TapMachine{Start: start[0]}
	for _, word := range words[1:] {
		if !addBranch(&m, word) && !addGuard(&m, word) {
			return api.TapMachine{}, api.ErrSyntax
		}
	}
	if e := errorOf(CheckMachine(m)); e != api.OK {
		return api.TapMachine{}, e
	}
	return m, api.OK
}

// addBranch adds the branch with a word to a machine that has no guards yet.
func addBranch(m *api.TapMachine, word string) bool {
	n, is := parseWord(word, tapMark, resistanceMark)
	if !is || len(m.Guards) > 0 {
		return false
	}
	m.Branches = append(m.Branches, api.TapBranch{Tap: n[0], Resistance: n[1]})
	return true
}

// addGuard adds the guard with a word to a machine.
func addGuard(m *api.TapMachine, word string) bool {
	closes := strings.HasPrefix(word, closesMark)
	n, is := parseWord(word, changeMark(closes), setMark, setMark)
	if !is {
		return false
	}
	m.Guards = append(m.Guards, api.TapGuard{Contact: n[0], Closes: closes, Closed: n[1], Open: n[2]})
	return true
}

// parseWord returns the numbers of a word, each of which follows its mark.
func parseWord(word string, marks ...string) ([]int, bool) {
	var numbers []int
	for _, mark := range marks {
		rest, is := strings.CutPrefix(word, mark)
		if !is {
			return nil, false
		}
		digits := countDigits(rest)
		n, is := parseNumber(rest[:digits])
		if !is {
			return nil, false
		}
		numbers = append(numbers, n)
		word = rest[digits:]
	}
	return numbers, word == ""
}

// countDigits returns how many digits a string begins with.
func countDigits(s string) int {
	n := 0
	for n < len(s) && s[n] >= '0' && s[n] <= '9' {
		n++
	}
	return n
}

// parseNumber returns the number with these digits.
func parseNumber(digits string) (int, bool) {
	if digits == "" || len(digits) > maxDigits || digits[0] == '0' && len(digits) > 1 {
		return 0, false
	}
	n := 0
	for i := range len(digits) {
		n = 10*n + int(digits[i]-'0')
	}
	return n, true
}
