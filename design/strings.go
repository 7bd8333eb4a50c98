package design

import (
	"strconv"
	"strings"

	"buchholz/api"
)

const (
	partWords  = 2 + 2*api.DesignQuantities // the words of the string of a part
	partDigits = 7                          // the digits of a number in it
)

// FormatSpec returns the string of a specification, whatever it is.
func FormatSpec(x api.DesignSpec) string {
	requirements := make([]string, len(x.Requirements))
	for i, r := range x.Requirements {
		requirements[i] = formatRequirement(r)
	}
	return strings.Join(requirements, " ; ")
}

func formatRequirement(r api.DesignRequirement) string {
	var words []string
	for i, t := range r.Terms {
		if t.Factor < 0 {
			words = append(words, "-")
		} else if i > 0 {
			words = append(words, "+")
		}
		words = append(words, formatTerm(t))
	}
	relation := "<="
	if r.AtLeast {
		relation = ">="
	}
	words = append(words, relation, strconv.Itoa(r.Limit), unitWord(r.Unit))
	return strings.Join(words, " ")
}

// formatTerm returns the word of a term, without its sign. This is taken from the digits: the least int has no opposite.
func formatTerm(t api.DesignTerm) string {
	word := quantityWord(t.Quantity)
	size := strings.TrimPrefix(strconv.Itoa(t.Factor), "-")
	if size == "1" {
		return word
	}
	return size + "*" + word
}

// FormatPart returns the string of a part, whatever it is.
func FormatPart(p api.DesignPart) string {
	words := []string{p.Name, strconv.Itoa(p.Price)}
	for _, r := range p.Values {
		words = append(words, strconv.Itoa(r.Lo), strconv.Itoa(r.Hi))
	}
	return strings.Join(words, " ")
}

// ParsePart returns the part with a string.
func ParsePart(s string) (api.DesignPart, api.Errno) {
	words := strings.SplitN(s, " ", partWords+1)
	if len(words) != partWords || words[0] == "" {
		return api.DesignPart{}, api.ErrSyntax
	}
	var numbers [partWords - 1]int
	for i, w := range words[1:] {
		n, is := parseNumber(w, partDigits)
		if !is {
			return api.DesignPart{}, api.ErrSyntax
		}
		numbers[i] = n
	}
	p := api.DesignPart{Name: words[0], Price: numbers[0]}
	for q := range p.Values {
		p.Values[q] = api.Range{Lo: numbers[1+2*q], Hi: numbers[2+2*q]}
	}
	if e := checkPart(p, nil); e != api.OK {
		return api.DesignPart{}, e
	}
	return p, api.OK
}
