package discharge

import (
	"strconv"
	"strings"

	"buchholz/api"
)

const (
	blank        = " "
	partMark     = ";" // before each pulse
	fractionMark = "/" // between Num and Den
	sign         = "-"
	headWords    = 5 // the words before the pulses
	pulseWords   = 3
	maxDigits    = 13 // the digits of a number
)

// joined returns the words of numbers.
func joined(numbers ...int) string {
	var words []string
	for _, n := range numbers {
		words = append(words, strconv.Itoa(n))
	}
	return strings.Join(words, blank)
}

func formatFrac(f api.Frac) string {
	return strconv.Itoa(f.Num) + fractionMark + strconv.Itoa(f.Den)
}

// FormatSeries returns the string of a series, whatever it is.
func FormatSeries(s api.DischargeSeries) string {
	words := []string{s.Sensor, joined(s.Period, s.Least), formatFrac(s.Calibration.Lo), formatFrac(s.Calibration.Hi)}
	parts := []string{strings.Join(words, blank)}
	for _, p := range s.Pulses {
		parts = append(parts, joined(p.At, p.Amplitude, p.Width))
	}
	return strings.Join(parts, partMark)
}

// ParseSeries returns the series with a string.
func ParseSeries(s string) (api.DischargeSeries, api.Errno) {
	if len(s) > api.MaxString {
		return api.DischargeSeries{}, api.ErrLarge
	}
	parts := strings.Split(s, partMark)
	x, is := parseHead(parts[0])
	if !is {
		return api.DischargeSeries{}, api.ErrSyntax
	}
	for _, part := range parts[1:] {
		p, is := parsePulse(part)
		if !is {
			return api.DischargeSeries{}, api.ErrSyntax
		}
		x.Pulses = append(x.Pulses, p)
	}
	if e := errorOf(CheckSeries(x)); e != api.OK {
		return api.DischargeSeries{}, e
	}
	return x, api.OK
}

// parseHead returns the series without pulses whose string this is. Whether its sensor is a name is left to the check of the series.
func parseHead(s string) (api.DischargeSeries, bool) {
	words := strings.Split(s, blank)
	if len(words) != headWords {
		return api.DischargeSeries{}, false
	}
	numbers, areNumbers := parseAll(parseNumber, words[1:3]...)
	ends, areFractions := parseAll(parseFrac, words[3:]...)
	if !areNumbers || !areFractions {
		return api.DischargeSeries{}, false
	}
	return api.DischargeSeries{
		Sensor:      words[0],
		Period:      numbers[0],
		Least:       numbers[1],
		Calibration: api.Span{Lo: ends[0], Hi: ends[1]},
	}, true
}

func parsePulse(s string) (api.DischargePulse, bool) {
	words := strings.Split(s, blank)
	if len(words) != pulseWords {
		return api.DischargePulse{}, false
	}
	at, isTime := parseNumber(words[0])
	amplitude, isAmplitude := parseSigned(words[1])
	width, isWidth := parseNumber(words[2])
	p := api.DischargePulse{At: at, Amplitude: amplitude, Width: width}
	return p, isTime && isAmplitude && isWidth
}

// parseAll returns the values of words.
func parseAll[T any](parse func(string) (T, bool), words ...string) ([]T, bool) {
	var l []T
	for _, word := range words {
		value, is := parse(word)
		if !is {
			return nil, false
		}
		l = append(l, value)
	}
	return l, true
}

func parseFrac(word string) (api.Frac, bool) {
	numbers, are := parseAll(parseNumber, strings.Split(word, fractionMark)...)
	if !are || len(numbers) != 2 {
		return api.Frac{}, false
	}
	return api.Frac{Num: numbers[0], Den: numbers[1]}, true
}

// parseSigned returns the number of a word that may have a sign.
func parseSigned(word string) (int, bool) {
	digits, isNegative := strings.CutPrefix(word, sign)
	n, is := parseNumber(digits)
	if isNegative {
		return -n, is && n > 0
	}
	return n, is
}

// parseNumber returns the number of a word without a sign.
func parseNumber(word string) (int, bool) {
	if word == "" || len(word) > maxDigits || word[0] == '0' && len(word) > 1 {
		return 0, false
	}
	n := 0
	for i := range len(word) {
		if !isDigit(word[i]) {
			return 0, false
		}
		n = 10*n + int(word[i]-'0')
	}
	return n, true
}
