// Package design is chapter 2: a language of specifications, designs from stock with a bound, cores from strips, and windings. See shared/doc/02-design.md.
package design

import "buchholz/api"

// firstOf returns the first error, or OK.
func firstOf(l ...api.Errno) api.Errno {
	for _, e := range l {
		if e != api.OK {
			return e
		}
	}
	return api.OK
}

// checkRange refuses numbers that are not from lo to hi.
func checkRange(lo, hi int, l ...int) api.Errno {
	for _, n := range l {
		if n < lo || n > hi {
			return api.ErrRange
		}
	}
	return api.OK
}

// checkCount refuses no items, and more than most.
func checkCount(n, most int) api.Errno {
	if n == 0 {
		return api.ErrShape
	}
	if n > most {
		return api.ErrLarge
	}
	return api.OK
}

// CheckSpec accepts a specification: it returns the index of the first wrong requirement, and its error.
func CheckSpec(x api.DesignSpec) (int, api.Errno) {
	if e := checkCount(len(x.Requirements), api.MaxDesignRequirements); e != api.OK {
		return 0, e
	}
	for i, r := range x.Requirements {
		if e := checkRequirement(r); e != api.OK {
			return i, e
		}
	}
	return 0, api.OK
}

func checkRequirement(r api.DesignRequirement) api.Errno {
	if e := checkCount(len(r.Terms), api.MaxDesignTerms); e != api.OK {
		return e
	}
	for i, t := range r.Terms {
		if e := checkTerm(t, r.Unit, r.Terms[:i]); e != api.OK {
			return e
		}
	}
	return checkRange(-api.MaxDesignLimit, api.MaxDesignLimit, r.Limit)
}

// checkTerm checks a term of a requirement in a unit, whose terms before it are given.
func checkTerm(t api.DesignTerm, unit int, before []api.DesignTerm) api.Errno {
	if t.Factor == 0 || checkRange(-api.MaxDesignFactor, api.MaxDesignFactor, t.Factor) != api.OK {
		return api.ErrRange
	}
	if !isQuantity(t.Quantity) {
		return api.ErrMissing
	}
	if unitsOf[t.Quantity] != unit {
		return api.ErrKind
	}
	if occurs(t.Quantity, before) {
		return api.ErrDouble
	}
	return api.OK
}

func occurs(quantity int, l []api.DesignTerm) bool {
	for _, t := range l {
		if t.Quantity == quantity {
			return true
		}
	}
	return false
}

// CheckStock accepts a stock: it returns the index of the first wrong slot, and its error.
func CheckStock(k api.DesignStock) (int, api.Errno) {
	prices := checkRange(0, api.MaxDesignSize, k.IdlePrice, k.Price)
	if e := firstOf(prices, checkCount(len(k.Slots), api.MaxDesignSlots)); e != api.OK {
		return 0, e
	}
	for i, parts := range k.Slots {
		if e := checkSlot(parts); e != api.OK {
			return i, e
		}
	}
	return 0, api.OK
}

func checkSlot(parts []api.DesignPart) api.Errno {
	if e := checkCount(len(parts), api.MaxDesignParts); e != api.OK {
		return e
	}
	for i, p := range parts {
		if e := checkPart(p, parts[:i]); e != api.OK {
			return e
		}
	}
	return api.OK
}

// checkPart checks a part of a slot, whose parts before it are given.
func checkPart(p api.DesignPart, before []api.DesignPart) api.Errno {
	if !isName(p.Name) {
		return api.ErrName
	}
	for _, q := range before {
		if p.Name == q.Name {
			return api.ErrExists
		}
	}
	if e := checkRange(0, api.MaxDesignValue, p.Price); e != api.OK {
		return e
	}
	for _, r := range p.Values {
		if e := checkRange(0, api.MaxDesignValue, r.Lo, r.Hi); e != api.OK {
			return e
		}
		if r.Lo > r.Hi {
			return api.ErrOrder
		}
	}
	return api.OK
}

func isName(s string) bool {
	if s == "" || len(s) > api.MaxName || !isLetter(s[0]) {
		return false
	}
	for i := range len(s) {
		if !isLetter(s[i]) && !isDigit(s[i]) && s[i] != '-' {
			return false
		}
	}
	return true
}

func isLetter(c byte) bool {
	return c >= 'a' && c <= 'z' || c >= 'A' && c <= 'Z'
}

func isDigit(c byte) bool {
	return c >= '0' && c <= '9'
}
