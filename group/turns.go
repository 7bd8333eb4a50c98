package group

import "buchholz/api"

// then returns the turn a, and then b.
func then(a, b api.GroupTurn) api.GroupTurn {
	if b.Mirrored {
		return api.GroupTurn{Hours: modulo(b.Hours-a.Hours, 12), Mirrored: !a.Mirrored}
	}
	return api.GroupTurn{Hours: modulo(b.Hours+a.Hours, 12), Mirrored: a.Mirrored}
}

// Composed returns the composition of two turns: a, then b.
func Composed(a, b api.GroupTurn) (api.GroupTurn, api.Errno) {
	if e := firstOf(checkTurn(a), checkTurn(b)); e != api.OK {
		return api.GroupTurn{}, e
	}
	return then(a, b), api.OK
}

// Inverse returns the turn that undoes a turn.
func Inverse(a api.GroupTurn) (api.GroupTurn, api.Errno) {
	if e := checkTurn(a); e != api.OK {
		return api.GroupTurn{}, e
	}
	if a.Mirrored {
		return a, api.OK
	}
	return api.GroupTurn{Hours: modulo(-a.Hours, 12)}, api.OK
}

// OrderOf returns how often a turn must be made until every angle is what it was.
func OrderOf(a api.GroupTurn) (int, api.Errno) {
	if e := checkTurn(a); e != api.OK {
		return 0, e
	}
	order := 1
	for all := a; all != (api.GroupTurn{}); all = then(all, a) {
		order++
	}
	return order, api.OK
}
