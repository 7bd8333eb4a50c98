package wave

import (
	"strconv"
	"strings"

	"buchholz/api"
)

const (
	blank        = " " // between the words of a record, and the ends of a span
	partMark     = ";" // between the parts of rules
	fractionMark = "/" // between Num and Den
	recordDigits = 7   // the digits of a number of a record
	rulesDigits  = 4   // the digits of a number of rules
)

// FormatRecord returns the string of a record, whatever it is.
func FormatRecord(x api.WaveRecord) string {
	words := []string{strconv.Itoa(x.Step)}
	for _, n := range x.Samples {
		words = append(words, strconv.Itoa(n))
	}
	return strings.Join(words, blank)
}

// FormatRules returns the string of rules, whatever they are.
func FormatRules(r api.WaveRules) string {
	parts := []string{strconv.Itoa(r.Error), formatSpan(r.Factors)}
	for _, f := range r.Chain {
		parts = append(parts, formatSpan(f))
	}
	return strings.Join(parts, partMark)
}

func formatSpan(s api.Span) string {
	return formatFrac(s.Lo) + blank + formatFrac(s.Hi)
}

func formatFrac(f api.Frac) string {
	return strconv.Itoa(f.Num) + fractionMark + strconv.Itoa(f.Den)
}

// ParseRecord returns the record with a string.
func ParseRecord(s string) (api.WaveRecord, api.Errno) {
	if len(s) > api.MaxString {
		return api.WaveRecord{}, api.ErrLarge
	}
	first, rest, isMore := strings.Cut(s, blank)
	step, is := unsigned(recordDigits)(first)
	if !is {
		return api.WaveRecord{}, api.ErrSyntax
	}
	x := api.WaveRecord{Step: step}
	if isMore {
		if x.Samples, is = parseList(rest, blank, signed(recordDigits)); !is {
			return api.WaveRecord{}, api.ErrSyntax
		}
	}
	if e := CheckRecord(x); e != api.OK {
		return api.WaveRecord{}, e
	}
	return x, api.OK
}

// ParseRules returns the rules with a string.
func ParseRules(s string) (api.WaveRules, api.Errno) {
	if len(s) > api.MaxString {
		return api.WaveRules{}, api.ErrLarge
	}
	first, rest, isMore := strings.Cut(s, partMark)
	e, isNumber := unsigned(rulesDigits)(first)
	spans, areSpans := parseList(rest, partMark, parseSpan)
	if !isMore || !isNumber || !areSpans {
		return api.WaveRules{}, api.ErrSyntax
	}
	r := api.WaveRules{Error: e, Factors: spans[0], Chain: spans[1:]}
	if e := CheckRules(r); e != api.OK {
		return api.WaveRules{}, e
	}
	return r, api.OK
}

// parseList returns the values of a string with a separator between any two of them. There is at least one.
func parseList[T any](s, separator string, parse func(string) (T, bool)) ([]T, bool) {
	var l []T
	for _, word := range strings.Split(s, separator) {
		value, is := parse(word)
		if !is {
			return nil, false
		}
		l = append(l, value)
	}
	return l, true
}

// parsePair returns the two values of a string with a separator between them.
func parsePair[T any](s, separator string, parse func(string) (T, bool)) ([2]T, bool) {
	before, after, is := strings.Cut(s, separator)
	if !is {
		return [2]T{}, false
	}
	first, isFirst := parse(before)
	second, isSecond := parse(after)
	return [2]T{first, second}, isFirst && isSecond
}

func parseSpan(s string) (api.Span, bool) {
	ends, is := parsePair(s, blank, parseFrac)
	return api.Span{Lo: ends[0], Hi: ends[1]}, is
}

func parseFrac(s string) (api.Frac, bool) {
	parts, is := parsePair(s, fractionMark, unsigned(rulesDigits))
	return api.Frac{Num: parts[0], Den: parts[1]}, is
}

// signed returns the reader of numbers with at most so many digits that may have a sign.
func signed(most int) func(string) (int, bool) {
	return func(s string) (int, bool) {
		digits, isNegative := strings.CutPrefix(s, "-")
		n, is := unsigned(most)(digits)
		if isNegative {
			return -n, is && n > 0
		}
		return n, is
	}
}

// unsigned returns the reader of numbers with at most so many digits and no sign.
func unsigned(most int) func(string) (int, bool) {
	return func(s string) (int, bool) {
		if s == "" || len(s) > most || s[0] == '0' && len(s) > 1 {
			return 0, false
		}
		n := 0
		for i := range len(s) {
			if s[i] < '0' || s[i] > '9' {
				return 0, false
			}
			n = 10*n + int(s[i]-'0')
		}
		return n, true
	}
}
