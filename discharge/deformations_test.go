package discharge_test

import (
	"reflect"
	"slices"
	"testing"

	"buchholz/api"
	"buchholz/discharge"
)

// P9.7: changes of the same number, that add up.
func TestDeformed(t *testing.T) {
	n := network([3]int{1, 0, 1}, [3]int{2, 3, 0})
	for _, x := range []struct {
		l    []api.DischargeDeformation
		want api.DischargeNetwork
	}{
		{nil, n},
		{[]api.DischargeDeformation{deformation(0, api.DischargeC, 1)}, network([3]int{1, 0, 2}, [3]int{2, 3, 0})},
		{[]api.DischargeDeformation{deformation(1, api.DischargeR, 3), deformation(0, api.DischargeL, 2)}, network([3]int{1, 2, 1}, [3]int{5, 3, 0})},
		{[]api.DischargeDeformation{deformation(1, api.DischargeL, -2), deformation(1, api.DischargeL, -1), deformation(1, api.DischargeC, 0)}, network([3]int{1, 0, 1}, [3]int{2, 0, 0})},
		{[]api.DischargeDeformation{deformation(0, api.DischargeR, 10), deformation(0, api.DischargeR, -10), deformation(0, api.DischargeR, -1)}, network([3]int{0, 0, 1}, [3]int{2, 3, 0})}, // beyond the limits on the way
		{slices.Repeat([]api.DischargeDeformation{deformation(1, api.DischargeC, 0)}, 6), n},
	} {
		if got, e := discharge.Deformed(n, x.l); e != api.OK || !reflect.DeepEqual(got, x.want) {
			t.Error(x, got, e)
		}
	}
	for _, d := range []api.DischargeDeformation{
		deformation(0, api.DischargeR, -2), deformation(0, api.DischargeR, 5), deformation(0, api.DischargeL, -1), deformation(0, api.DischargeL, 4),
		deformation(1, api.DischargeC, -1), deformation(1, api.DischargeC, 4), deformation(1, api.DischargeL, 1), deformation(1, api.DischargeR, 10),
	} {
		if got, e := discharge.Deformed(n, []api.DischargeDeformation{d}); got.Sections != nil || e != api.ErrBreak {
			t.Error(d, got, e)
		}
	}
}

// wrongList is deformations that a network of two sections does not have, and their error.
type wrongList struct {
	l    []api.DischargeDeformation
	want api.Errno
}

// badLists returns lists of deformations that are not valid.
func badLists() []wrongList {
	ok, missing := deformation(1, api.DischargeC, 1), deformation(2, api.DischargeC, 1)
	l := []wrongList{
		{slices.Repeat([]api.DischargeDeformation{ok}, 7), api.ErrLarge},
		{slices.Repeat([]api.DischargeDeformation{missing}, 7), api.ErrLarge},
		{[]api.DischargeDeformation{ok, missing}, api.ErrMissing},
		{[]api.DischargeDeformation{deformation(2, 3, 11)}, api.ErrMissing},
		{[]api.DischargeDeformation{deformation(1, 3, 11)}, api.ErrKind},
		{[]api.DischargeDeformation{deformation(1, 3, 0), missing}, api.ErrKind}, // deformation by deformation
		{[]api.DischargeDeformation{deformation(1, 0, -11), deformation(1, 3, 0)}, api.ErrRange},
	}
	add := func(d api.DischargeDeformation, want api.Errno) {
		l = append(l, wrongList{[]api.DischargeDeformation{d}, want}, wrongList{[]api.DischargeDeformation{ok, ok, d}, want})
	}
	for _, n := range []int{-1, 2, 3, least, greatest} {
		add(deformation(n, api.DischargeC, 1), api.ErrMissing)
	}
	for _, n := range []int{-1, 3, least, greatest} {
		add(deformation(0, n, 1), api.ErrKind)
	}
	for _, n := range []int{11, -11, least, greatest} {
		add(deformation(0, api.DischargeC, n), api.ErrRange)
	}
	return l
}

// measured returns measured responses.
func measured(frequencies []int, responses ...api.Gauss) api.DischargeMeasured {
	return api.DischargeMeasured{Frequencies: frequencies, Responses: responses}
}

// P9.7: the errors of the network, of the list, of the frequencies, of the responses, and of their numbers.
func TestDeformationsErrors(t *testing.T) {
	n, one := network([3]int{1, 0, 1}, [3]int{1, 0, 1}), []int{2}
	l := []api.DischargeDeformation{deformation(0, api.DischargeC, 1)}
	bad := func(n api.DischargeNetwork, l []api.DischargeDeformation, m api.DischargeMeasured, want api.Errno) {
		t.Helper()
		if sets, e := discharge.ExplanationsOf(n, l, m); len(sets) != 0 || e != want {
			t.Error(n, l, m, sets, e, want)
		}
		if is, e := discharge.Explains(n, l, api.DischargeClaim{Measured: m, Set: []int{-1}}); is || e != want {
			t.Error(n, l, m, is, e, want)
		}
	}
	for _, x := range badNetworks() {
		bad(x.n, l, measured(one, gauss(1, 2)), x.want)
		bad(x.n, make([]api.DischargeDeformation, 7), measured([]int{7}), x.want)
		if got, e := discharge.Deformed(x.n, l); got.Sections != nil || e != x.want {
			t.Error(x, got, e)
		}
	}
	for _, x := range badLists() {
		bad(n, x.l, measured(one, gauss(1, 2)), x.want)
		bad(n, x.l, measured([]int{7}, gauss(least, 2), gauss(0, 0)), x.want)
		if got, e := discharge.Deformed(n, x.l); got.Sections != nil || e != x.want {
			t.Error(x, got, e)
		}
	}
	for _, x := range badFrequencies() {
		bad(n, l, measured(x.l, make([]api.Gauss, len(x.l))...), x.want)
		bad(n, l, measured(x.l, gauss(least, 0)), x.want)
	}
	for _, x := range badResponses() {
		bad(n, l, measured(make([]int, min(8, len(x.l))), x.l...), x.want)
		bad(n, l, measured(nil, x.l...), x.want)
	}
	bad(n, l, measured(nil, gauss(1, 0)), api.ErrShape)
	bad(n, l, measured(one), api.ErrShape)
	bad(n, l, measured([]int{1, 2}, gauss(1, 0)), api.ErrShape)
}

// ninth returns the network, the deformations and the frequencies of the ninth example.
func ninth() (api.DischargeNetwork, []api.DischargeDeformation, []int) {
	return network([3]int{1, 0, 1}), []api.DischargeDeformation{deformation(0, api.DischargeC, 1), deformation(0, api.DischargeR, 1)}, []int{2}
}

// P9.7: the ninth example, and the edge cases of explanations.
func TestExplanationsOf(t *testing.T) {
	n, l, w := ninth()
	c, back := l[0], deformation(0, api.DischargeC, -1)
	tooFar := deformation(0, api.DischargeR, 5)
	for _, x := range []struct {
		l    []api.DischargeDeformation
		m    api.DischargeMeasured
		want [][]int
	}{
		{l, measured(w, gauss(1, 4)), [][]int{{0}, {1}}},
		{l, measured(w, gauss(1, 8)), [][]int{{0, 1}}},
		{l, measured(w, gauss(1, 2)), [][]int{{}}}, // the network itself
		{nil, measured(w, gauss(1, 2)), [][]int{{}}},
		{l, measured(w, gauss(1, 6)), nil},
		{l, measured(w, gauss(-1, -4)), nil},
		{l, measured(w, gauss(2, 4)), nil},
		{nil, measured(w, gauss(1, 4)), nil},
		{l, measured(nil), [][]int{{}}},
		{nil, measured(nil), [][]int{{}}},
		{l, measured([]int{0, 0}, gauss(1, 0), gauss(1, 0)), [][]int{{}}},
		{l, measured([]int{0}, gauss(1, 4)), nil},
		{l, measured([]int{2, 2}, gauss(1, 4), gauss(1, 8)), nil}, // not both
		{l, measured([]int{2, 3}, gauss(1, 4), gauss(1, 6)), [][]int{{0}, {1}}},
		{l, measured([]int{2, 3}, gauss(1, 4), gauss(1, 5)), nil},
		{[]api.DischargeDeformation{c, back}, measured(w, gauss(1, 2)), [][]int{{}}}, // both take each other back
		{[]api.DischargeDeformation{c, back}, measured(w, gauss(1, 4)), [][]int{{0}}},
		{[]api.DischargeDeformation{c, c, back}, measured(w, gauss(1, 4)), [][]int{{0}, {1}}}, // 0, 1, 2 does, too
		{[]api.DischargeDeformation{c, c, c}, measured(w, gauss(1, 6)), [][]int{{0, 1}, {0, 2}, {1, 2}}},
		{[]api.DischargeDeformation{c, c, c}, measured(w, gauss(1, 8)), nil},                                       // C would be 4
		{[]api.DischargeDeformation{tooFar, back}, measured(w, gauss(1, 12)), nil},                                 // R would be 6
		{[]api.DischargeDeformation{tooFar, deformation(0, 0, -1)}, measured(w, gauss(1, 10)), [][]int{{0, 1}}},    // 1 + 5 - 1
		{[]api.DischargeDeformation{tooFar, deformation(0, 0, -2), back}, measured(w, gauss(1, 0)), [][]int{{2}}},  // without C
		{[]api.DischargeDeformation{deformation(0, 0, -1), back, c}, measured(w, gauss(1, 0)), [][]int{{0}, {1}}},  // without R, or without C
		{[]api.DischargeDeformation{deformation(0, 0, 0), deformation(0, 1, 0)}, measured(w, gauss(1, 3)), nil},    // nothing changes
		{[]api.DischargeDeformation{c, deformation(0, 1, 1), l[1]}, measured(w, gauss(-7, 8)), [][]int{{0, 1, 2}}}, // 1 + (2 + 2 i) 4 i
	} {
		want := api.OK
		if x.want == nil {
			want = api.ErrNone
		}
		sets, e := discharge.ExplanationsOf(n, x.l, x.m)
		if e != want || !slices.EqualFunc(sets, x.want, slices.Equal) {
			t.Error(x, sets, e)
		}
	}
}

// P9.7: which sets explain, also those that are not minimum ones.
func TestExplains(t *testing.T) {
	n, l, w := ninth()
	l = append(l, deformation(0, api.DischargeC, -1), deformation(0, api.DischargeR, 4))
	for _, x := range []struct {
		set  []int
		g    api.Gauss
		want bool
	}{
		{nil, gauss(1, 2), true},
		{[]int{}, gauss(1, 2), true},
		{nil, gauss(1, 4), false},
		{[]int{0}, gauss(1, 4), true},
		{[]int{1}, gauss(1, 4), true},
		{[]int{0}, gauss(1, 2), false},
		{[]int{0, 1}, gauss(1, 8), true},
		{[]int{0, 1}, gauss(1, 4), false},
		{[]int{0, 2}, gauss(1, 2), true},     // though the empty set does
		{[]int{0, 1, 2}, gauss(1, 4), true},  // though fewer do
		{[]int{3}, gauss(1, 10), true},       // R is 5
		{[]int{1, 3}, gauss(1, 12), false},   // R would be 6
		{[]int{2, 3}, gauss(1, 0), true},     // C is 0
		{[]int{1, 2, 3}, gauss(1, 0), false}, // not valid, whatever it has
	} {
		is, e := discharge.Explains(n, l, api.DischargeClaim{Measured: measured(w, x.g), Set: x.set})
		if is != x.want || e != api.OK {
			t.Error(x, is, e)
		}
	}
	if is, e := discharge.Explains(n, l, api.DischargeClaim{Set: []int{1, 3}}); is || e != api.OK {
		t.Error("without frequencies: a network that is not valid", is, e)
	}
	if is, e := discharge.Explains(n, l, api.DischargeClaim{Set: []int{0, 1}}); !is || e != api.OK {
		t.Error("without frequencies: a valid network", is, e)
	}
}

// P9.7: indexes that are not those of a set.
func TestExplainsErrors(t *testing.T) {
	n, l, w := ninth()
	for _, x := range []struct {
		set  []int
		want api.Errno
	}{
		{[]int{2}, api.ErrMissing},
		{[]int{-1}, api.ErrMissing},
		{[]int{least}, api.ErrMissing},
		{[]int{greatest}, api.ErrMissing},
		{[]int{0, 1, 2}, api.ErrMissing},
		{[]int{1, -1}, api.ErrMissing}, // before the order
		{[]int{0, 0}, api.ErrOrder},
		{[]int{1, 0}, api.ErrOrder},
		{[]int{1, 0, 2}, api.ErrOrder}, // index by index
		{[]int{0, 1, 1}, api.ErrOrder},
		{make([]int, 1000), api.ErrOrder},
	} {
		is, e := discharge.Explains(n, l, api.DischargeClaim{Measured: measured(w, gauss(1, 4)), Set: x.set})
		if is || e != x.want {
			t.Error(x, is, e)
		}
	}
	if is, e := discharge.Explains(n, nil, api.DischargeClaim{Set: []int{0}}); is || e != api.ErrMissing {
		t.Error(is, e)
	}
}

// changedBy returns a network with the changes of a set, and whether it is valid.
func changedBy(n api.DischargeNetwork, l []api.DischargeDeformation, set []int) (api.DischargeNetwork, bool) {
	changed := network()
	for section, s := range n.Sections {
		values := [3]int{s.R, s.L, s.C}
		for _, i := range set {
			if l[i].Section == section {
				values[l[i].Kind] += l[i].By
			}
		}
		changed.Sections = append(changed.Sections, api.DischargeSection{R: values[0], L: values[1], C: values[2]})
		if min(values[0], values[1], values[2]) < 0 || values[0] > 5 || max(values[1], values[2]) > 3 {
			return api.DischargeNetwork{}, false
		}
	}
	return changed, true
}

// P9.7: Deformed, by its definition.
func TestDeformedByDefinition(t *testing.T) {
	r := numbers(14)
	broken := 0
	for range 2000 {
		n := r.network(r.from(1, 3))
		l := r.list(6, len(n.Sections))
		var set []int
		for i := range l {
			set = append(set, i)
		}
		want := api.OK
		changed, is := changedBy(n, l, set)
		if !is {
			want = api.ErrBreak
			broken++
		}
		got, e := discharge.Deformed(n, l)
		if e != want || !slices.Equal(got.Sections, changed.Sections) {
			t.Fatal(n, l, got, e, changed)
		}
	}
	if broken < 500 || broken > 1500 {
		t.Error(broken)
	}
}

// explainingSets returns all sets that explain measured responses, in lexicographic order of those of the same size.
func explainingSets(n api.DischargeNetwork, l []api.DischargeDeformation, m api.DischargeMeasured) [][]int {
	var sets [][]int
	for _, set := range setsBy(len(l)) {
		changed, is := changedBy(n, l, set)
		if is && slices.Equal(responsesBy(changed, m.Frequencies), m.Responses) {
			sets = append(sets, set)
		}
	}
	return sets
}

// puzzle returns a network, deformations, and the responses after some of them, of which there are so many.
func (r *numbers) puzzle() (api.DischargeNetwork, []api.DischargeDeformation, api.DischargeMeasured, int) {
	for {
		n := r.network(r.from(1, 3))
		l := r.list(6, len(n.Sections))
		sets := setsBy(len(l))
		set := sets[r.below(len(sets))]
		if changed, is := changedBy(n, l, set); is {
			frequencies := r.frequencies(r.oneOf(1, 2, 8))
			return n, l, measured(frequencies, responsesBy(changed, frequencies)...), len(set)
		}
	}
}

// P9.7 and P9.15: all explanations, by looking at all sets; what was applied is no smaller.
func TestExplanationsByDefinition(t *testing.T) {
	r := numbers(15)
	sizes, rivals := map[int]int{}, 0
	for range 2000 {
		n, l, m, applied := r.puzzle()
		explaining := explainingSets(n, l, m)
		size := len(explaining[0])
		minimum := slices.Clone(explaining)
		minimum = slices.DeleteFunc(minimum, func(set []int) bool { return len(set) > size })
		sets, e := discharge.ExplanationsOf(n, l, m)
		if e != api.OK || !slices.EqualFunc(sets, minimum, slices.Equal) || size > applied {
			t.Fatal(n, l, m, sets, e, minimum, applied)
		}
		sizes[size]++
		rivals += min(len(sets)-1, 1)
		for _, set := range setsBy(len(l)) {
			isOne := func(other []int) bool { return slices.Equal(other, set) }
			is, e := discharge.Explains(n, l, api.DischargeClaim{Measured: m, Set: set})
			if e != api.OK || is != slices.ContainsFunc(explaining, isOne) {
				t.Fatal(n, l, m, set, is, e)
			}
		}
	}
	if min(sizes[0], sizes[1], sizes[2], rivals) < 100 || sizes[3] < 20 {
		t.Error(sizes, rivals)
	}
}

// P9.7: responses that no set explains.
func TestNothingExplains(t *testing.T) {
	r := numbers(16)
	none := 0
	for range 2000 {
		n, l, m, _ := r.puzzle()
		if len(m.Responses) == 0 {
			continue
		}
		m.Responses[r.below(len(m.Responses))].Im += r.oneOf(1, -1, 6)
		want := api.OK
		explaining := explainingSets(n, l, m)
		if explaining == nil {
			want = api.ErrNone
			none++
		}
		sets, e := discharge.ExplanationsOf(n, l, m)
		if e != want || len(sets) > len(explaining) || (len(sets) == 0) != (explaining == nil) {
			t.Fatal(n, l, m, sets, e)
		}
	}
	if none < 500 {
		t.Error(none)
	}
}
