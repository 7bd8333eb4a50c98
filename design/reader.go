package design

import (
	"strings"

	"buchholz/api"
)

// How many digits the numbers in the string of a specification may have.
const (
	factorDigits = 4
	limitDigits  = 10
)

// malformed is what a reader panics with: the index of a word, and its error.
type malformed struct {
	word int
	err  api.Errno
}

// reader reads the words of a specification, and panics at the first one that is malformed.
type reader struct {
	words []string
	at    int // the index of the next word
}

// ParseSpec returns the specification with a string, or the index of the first malformed word, and its error.
func ParseSpec(s string) (x api.DesignSpec, word int, e api.Errno) {
	if len(s) > api.MaxString {
		return api.DesignSpec{}, 0, api.ErrLarge
	}
	defer func() {
		if m, ok := recover().(malformed); ok {
			x, word, e = api.DesignSpec{}, m.word, m.err
		}
	}()
	r := reader{words: strings.Split(s, " ")}
	return r.spec(), 0, api.OK
}

// take returns the next word. After the last one this is an empty one, which cannot stand anywhere.
func (r *reader) take() string {
	r.at++
	if r.at > len(r.words) {
		return ""
	}
	return r.words[r.at-1]
}

// stopIf gives up at the word that was taken last, if something is wrong with it.
func (r *reader) stopIf(wrong bool, e api.Errno) {
	if wrong {
		panic(malformed{r.at - 1, e})
	}
}

func (r *reader) spec() api.DesignSpec {
	var x api.DesignSpec
	for {
		full := len(x.Requirements) == api.MaxDesignRequirements
		x.Requirements = append(x.Requirements, r.requirement(full))
		if r.at == len(r.words) {
			return x
		}
		r.stopIf(r.take() != ";", api.ErrSyntax)
	}
}

// requirement reads a requirement. If the specification is full before it, its first word is one too many.
func (r *reader) requirement(full bool) api.DesignRequirement {
	terms, relation := r.terms(full)
	r.stopIf(relation != "<=" && relation != ">=", api.ErrSyntax)
	limit, isLimit := parseLimit(r.take())
	r.stopIf(!isLimit, api.ErrSyntax)
	r.stopIf(checkRange(-api.MaxDesignLimit, api.MaxDesignLimit, limit) != api.OK, api.ErrRange)
	unit, isUnit := unitFor(r.take())
	r.stopIf(!isUnit, api.ErrSyntax)
	r.stopIf(unit != unitsOf[terms[0].Quantity], api.ErrKind)
	return api.DesignRequirement{Terms: terms, AtLeast: relation == ">=", Limit: limit, Unit: unit}
}

// terms reads the terms of a requirement, and the word after them.
func (r *reader) terms(full bool) ([]api.DesignTerm, string) {
	word := r.take()
	sign := signOf(word)
	if sign < 0 {
		r.stopIf(full, api.ErrLarge)
		word = r.take()
	}
	var l []api.DesignTerm
	for {
		l = append(l, r.term(word, sign, l))
		r.stopIf(full || len(l) > api.MaxDesignTerms, api.ErrLarge)
		next := r.take()
		if next != "+" && next != "-" {
			return l, next
		}
		word, sign = r.take(), signOf(next)
	}
}

func signOf(word string) int {
	if word == "-" {
		return -1
	}
	return 1
}

// term makes a term of the word that was taken last, a sign and the terms before.
func (r *reader) term(word string, sign int, before []api.DesignTerm) api.DesignTerm {
	factor, quantity, is := parseTerm(word)
	r.stopIf(!is, api.ErrSyntax)
	r.stopIf(factor > api.MaxDesignFactor, api.ErrRange)
	r.stopIf(occurs(quantity, before), api.ErrDouble)
	r.stopIf(len(before) > 0 && unitsOf[before[0].Quantity] != unitsOf[quantity], api.ErrKind)
	return api.DesignTerm{Factor: sign * factor, Quantity: quantity}
}

// parseTerm returns the factor and the quantity of a word such as 2*mass.
func parseTerm(word string) (int, int, bool) {
	digits, name, cut := strings.Cut(word, "*")
	if !cut {
		quantity, is := quantityFor(word)
		return 1, quantity, is
	}
	factor, isFactor := parseNumber(digits, factorDigits)
	quantity, isQuantity := quantityFor(name)
	return factor, quantity, isFactor && isQuantity && factor > 1
}

func parseLimit(word string) (int, bool) {
	digits, negative := strings.CutPrefix(word, "-")
	n, is := parseNumber(digits, limitDigits)
	if negative {
		return -n, is && n > 0
	}
	return n, is
}

// parseNumber returns a number without a sign, of at most so many digits.
func parseNumber(s string, digits int) (int, bool) {
	if s == "" || len(s) > digits || s[0] == '0' && len(s) > 1 {
		return 0, false
	}
	n := 0
	for i := range len(s) {
		if !isDigit(s[i]) {
			return 0, false
		}
		n = 10*n + int(s[i]-'0')
	}
	return n, true
}
