package works

import (
	"slices"
	"strconv"
	"strings"

	"buchholz/api"
)

const (
	lotWords  = 6   // the words of the string of a lot
	taskWords = 4   // the words of the string of a task
	maxDigits = 7   // the digits of a number
	noItems   = "-" // the word of a list without items
	separator = "," // between the items of a list
)

// formatNumbers returns the words of numbers.
func formatNumbers(numbers ...int) []string {
	var words []string
	for _, n := range numbers {
		words = append(words, strconv.Itoa(n))
	}
	return words
}

// formatList returns the word of a list.
func formatList(items []string) string {
	if len(items) == 0 {
		return noItems
	}
	return strings.Join(items, separator)
}

// FormatLot returns the string of a lot, whatever it is.
func FormatLot(x api.WorksLot) string {
	words := []string{x.Name, formatList(x.Made)}
	ends := formatNumbers(x.Measured.Lo, x.Measured.Hi, x.Limits.Lo, x.Limits.Hi)
	return strings.Join(append(words, ends...), " ")
}

// FormatTask returns the string of a task, whatever it is.
func FormatTask(t api.WorksTask) string {
	words := formatNumbers(t.Machine, t.Length, t.Release)
	after := formatNumbers(t.After...)
	return strings.Join(append(words, formatList(after)), " ")
}

// ParseLot returns the lot with a string.
func ParseLot(s string) (api.WorksLot, api.Errno) {
	words, is := wordsOf(s, lotWords)
	if !is {
		return api.WorksLot{}, api.ErrSyntax
	}
	made, isList := parseList(words[1])
	ends, areNumbers := parseNumbers(parseSigned, words[2:]...)
	if !isList || !areNumbers {
		return api.WorksLot{}, api.ErrSyntax
	}
	x := api.WorksLot{
		Name:     words[0],
		Made:     made,
		Measured: api.Range{Lo: ends[0], Hi: ends[1]},
		Limits:   api.Range{Lo: ends[2], Hi: ends[3]},
	}
	if e := checkLot(x); e != api.OK {
		return api.WorksLot{}, e
	}
	return x, api.OK
}

// ParseTask returns the task with a string.
func ParseTask(s string) (api.WorksTask, api.Errno) {
	words, is := wordsOf(s, taskWords)
	if !is {
		return api.WorksTask{}, api.ErrSyntax
	}
	numbers, areNumbers := parseNumbers(parseNumber, words[:3]...)
	items, isList := parseList(words[3])
	after, areTasks := parseNumbers(parseNumber, items...)
	if !areNumbers || !isList || !areTasks {
		return api.WorksTask{}, api.ErrSyntax
	}
	t := api.WorksTask{Machine: numbers[0], Length: numbers[1], Release: numbers[2], After: after}
	if e := checkTask(t); e != api.OK {
		return api.WorksTask{}, e
	}
	return t, api.OK
}

// wordsOf returns the words of a string that has so many, none of which is empty.
func wordsOf(s string, count int) ([]string, bool) {
	words := strings.SplitN(s, " ", count+1)
	return words, len(words) == count && !slices.Contains(words, "")
}

// parseList returns the items of a word, none of which is empty.
func parseList(word string) ([]string, bool) {
	if word == noItems {
		return nil, true
	}
	items := strings.Split(word, separator)
	return items, !slices.Contains(items, "")
}

// parseNumbers returns the numbers of words.
func parseNumbers(parse func(string) (int, bool), words ...string) ([]int, bool) {
	var numbers []int
	for _, word := range words {
		n, is := parse(word)
		if !is {
			return nil, false
		}
		numbers = append(numbers, n)
	}
	return numbers, true
}

// parseSigned returns the number of a word that may have a sign.
func parseSigned(word string) (int, bool) {
	digits, isNegative := strings.CutPrefix(word, "-")
	n, is := parseNumber(digits)
	if isNegative {
		return -n, is && n > 0
	}
	return n, is
}

// parseNumber returns the number of a word without a sign.
func parseNumber(word string) (int, bool) {
	if word == "" || len(word) > maxDigits || word[0] == '0' && len(word) > 1 {
		return 0, false
	}
	n := 0
	for i := range len(word) {
		if !isDigit(word[i]) {
			return 0, false
		}
		n = 10*n + int(word[i]-'0')
	}
	return n, true
}
