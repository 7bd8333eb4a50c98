package field

import (
	"strconv"
	"strings"

	"buchholz/api"
)

const (
	branchWords  = 4 // the numbers of a branch
	numberDigits = 4 // the digits of a number
)

// wordsOf returns the places of the numbers of a branch, in the order of its string.
func wordsOf(b *api.FieldBranch) [branchWords]*int {
	return [branchWords]*int{&b.From, &b.To, &b.Reluctance, &b.Turns}
}

// FormatNet returns the string of a network, whatever it is.
func FormatNet(n api.FieldNet) string {
	parts := []string{strconv.Itoa(n.Nodes)}
	for _, b := range n.Branches {
		parts = append(parts, formatBranch(b))
	}
	return strings.Join(parts, ",")
}

func formatBranch(b api.FieldBranch) string {
	var words [branchWords]string
	for i, p := range wordsOf(&b) {
		words[i] = strconv.Itoa(*p)
	}
	return strings.Join(words[:], " ")
}

// ParseNet returns the network with a string.
func ParseNet(s string) (api.FieldNet, api.Errno) {
	if len(s) > api.MaxString {
		return api.FieldNet{}, api.ErrLarge
	}
	parts := strings.Split(s, ",")
	nodes, is := parseNumber(parts[0])
	if !is {
		return api.FieldNet{}, api.ErrSyntax
	}
	n := api.FieldNet{Nodes: nodes}
	for _, part := range parts[1:] {
		b, is := parseBranch(part)
		if !is {
			return api.FieldNet{}, api.ErrSyntax
		}
		n.Branches = append(n.Branches, b)
	}
	if e := errorOf(CheckNet(n)); e != api.OK {
		return api.FieldNet{}, e
	}
	return n, api.OK
}

// parseBranch returns the branch with a string.
func parseBranch(s string) (api.FieldBranch, bool) {
	words := strings.SplitN(s, " ", branchWords+1)
	if len(words) != branchWords {
		return api.FieldBranch{}, false
	}
	var b api.FieldBranch
	for i, p := range wordsOf(&b) {
		n, is := parseNumber(words[i])
		if !is {
			return api.FieldBranch{}, false
		}
		*p = n
	}
	return b, true
}

// parseNumber returns the number with a string.
func parseNumber(s string) (int, bool) {
	digits, negative := strings.CutPrefix(s, "-")
	if len(digits) == 0 || len(digits) > numberDigits || digits[0] == '0' && s != "0" {
		return 0, false
	}
	n := 0
	for i := range len(digits) {
		if digits[i] < '0' || digits[i] > '9' {
			return 0, false
		}
		n = 10*n + int(digits[i]-'0')
	}
	if negative {
		return -n, true
	}
	return n, true
}
