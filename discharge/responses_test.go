package discharge_test

import (
	"slices"
	"testing"

	"buchholz/api"
	"buchholz/discharge"
)

// gauss returns a whole complex number.
func gauss(re, im int) api.Gauss {
	return api.Gauss{Re: re, Im: im}
}

// sum returns a sum of whole complex numbers.
func sum(a, b api.Gauss) api.Gauss {
	return gauss(a.Re+b.Re, a.Im+b.Im)
}

// product returns a product of whole complex numbers.
func product(a, b api.Gauss) api.Gauss {
	return gauss(a.Re*b.Re-a.Im*b.Im, a.Re*b.Im+a.Im*b.Re)
}

// responseBy returns the voltage at the beginning of a chain, from that at its open end on, section by section.
func responseBy(n api.DischargeNetwork, w int) api.Gauss {
	voltage, current := gauss(1, 0), gauss(0, 0)
	for _, s := range slices.Backward(n.Sections) {
		current = sum(current, product(gauss(0, w*s.C), voltage))
		voltage = sum(voltage, product(gauss(s.R, w*s.L), current))
	}
	return voltage
}

// responsesBy returns the same for all frequencies.
func responsesBy(n api.DischargeNetwork, frequencies []int) []api.Gauss {
	var l []api.Gauss
	for _, w := range frequencies {
		l = append(l, responseBy(n, w))
	}
	return l
}

// wrongNetwork is a network that is not valid, the index of the wrong section, and the error.
type wrongNetwork struct {
	n     api.DischargeNetwork
	index int
	want  api.Errno
}

// badNetworks returns networks that are not valid.
func badNetworks() []wrongNetwork {
	l := []wrongNetwork{
		{api.DischargeNetwork{}, 0, api.ErrShape},
		{api.DischargeNetwork{Sections: []api.DischargeSection{}}, 0, api.ErrShape},
		{network([3]int{}, [3]int{}, [3]int{}, [3]int{}), 0, api.ErrLarge},
		{network([3]int{-1}, [3]int{}, [3]int{}, [3]int{}), 0, api.ErrLarge},
		{network(make([][3]int, 100)...), 0, api.ErrLarge},
		{network([3]int{}, [3]int{0, 4, 0}, [3]int{0, 0, -1}), 1, api.ErrRange},
	}
	for kind, most := range []int{5, 3, 3} {
		for _, n := range []int{-1, most + 1, least, greatest} {
			var wrong [3]int
			wrong[kind] = n
			l = append(l, wrongNetwork{network(wrong), 0, api.ErrRange}, wrongNetwork{network([3]int{5, 3, 3}, [3]int{}, wrong), 2, api.ErrRange})
		}
	}
	return l
}

// P9.6: networks at the limits, and beyond them.
func TestCheckNetwork(t *testing.T) {
	for _, n := range []api.DischargeNetwork{
		network([3]int{}),
		network([3]int{5, 3, 3}),
		network([3]int{5, 3, 3}, [3]int{}, [3]int{5, 3, 3}),
	} {
		if i, e := discharge.CheckNetwork(n); i != 0 || e != api.OK {
			t.Error(n, i, e)
		}
	}
	for _, x := range badNetworks() {
		if i, e := discharge.CheckNetwork(x.n); i != x.index || e != x.want {
			t.Error(x, i, e)
		}
	}
}

// P9.6: the seventh example, and the greatest networks.
func TestResponseAt(t *testing.T) {
	one, most := [3]int{1, 0, 1}, [3]int{5, 3, 3}
	for _, x := range []struct {
		n    api.DischargeNetwork
		w    int
		want api.Gauss
	}{
		{network(one), 2, gauss(1, 2)},
		{network(one, one), 2, gauss(-3, 6)},
		{network([3]int{0, 1, 1}), 2, gauss(-3, 0)},
		{network([3]int{0, 1, 0}, [3]int{0, 0, 1}), 1, gauss(0, 0)},
		{network([3]int{3, 2, 0}), 5, gauss(1, 0)}, // no current at an open end
		{network([3]int{0, 0, 3}), 6, gauss(1, 0)},
		{network([3]int{0, 0, 1}, [3]int{1, 0, 0}), 3, gauss(1, 0)},
		{network([3]int{1, 0, 0}, [3]int{0, 0, 1}), 3, gauss(1, 3)},
		{network(most, most, most), 0, gauss(1, 0)},
		{network(most), 6, gauss(-323, 90)},
		{network(most, most), 6, gauss(95905, -58050)},
		{network(most, most, most), 6, gauss(-25656587, 27323460)},
	} {
		if g, e := discharge.ResponseAt(x.n, x.w); g != x.want || e != api.OK {
			t.Error(x, g, e)
		}
		if want := responseBy(x.n, x.w); want != x.want {
			t.Error(x, want)
		}
	}
}

// P9.6: responses of networks, computed from their ends in whole numbers.
func TestResponsesByDefinition(t *testing.T) {
	r := numbers(12)
	for range 3000 {
		n, frequencies := r.network(r.from(1, 3)), r.frequencies(8)
		want := responsesBy(n, frequencies)
		if l, e := discharge.ResponsesOf(n, frequencies); e != api.OK || !slices.Equal(l, want) {
			t.Fatal(n, frequencies, l, e, want)
		}
		w := r.from(0, 6)
		if g, e := discharge.ResponseAt(n, w); g != responseBy(n, w) || e != api.OK {
			t.Fatal(n, w, g, e)
		}
	}
}

// P9.14: at the frequency 0 the response is 1, and a section without R, L and C changes nothing.
func TestSectionsConsequences(t *testing.T) {
	r := numbers(13)
	for range 500 {
		n := r.network(r.from(1, 3))
		if g, e := discharge.ResponseAt(n, 0); g != gauss(1, 0) || e != api.OK {
			t.Fatal(n, g, e)
		}
		n = r.network(r.from(1, 2))
		w := r.from(0, 6)
		g, e := discharge.ResponseAt(n, w)
		isOK(t, e)
		for place := range len(n.Sections) + 1 {
			longer := api.DischargeNetwork{Sections: slices.Insert(slices.Clone(n.Sections), place, api.DischargeSection{})}
			if same, e := discharge.ResponseAt(longer, w); same != g || e != api.OK {
				t.Fatal(longer, w, same, e, g)
			}
		}
	}
}

// wrongFrequencies is frequencies that are not valid, and their error.
type wrongFrequencies struct {
	l    []int
	want api.Errno
}

// badFrequencies returns frequencies that are not valid.
func badFrequencies() []wrongFrequencies {
	return []wrongFrequencies{
		{[]int{-1}, api.ErrRange},
		{[]int{7}, api.ErrRange},
		{[]int{least}, api.ErrRange},
		{[]int{greatest}, api.ErrRange},
		{[]int{0, 6, 7}, api.ErrRange},
		{[]int{6, 6, 6, 6, 6, 6, 6, -1}, api.ErrRange},
		{[]int{0, 1, 2, 3, 4, 5, 6, 0, 1}, api.ErrLarge},
		{[]int{-1, 0, 0, 0, 0, 0, 0, 0, -1}, api.ErrLarge},
	}
}

// P9.6: the errors of the network, then those of the frequencies.
func TestResponsesErrors(t *testing.T) {
	bad := func(n api.DischargeNetwork, frequencies []int, want api.Errno) {
		t.Helper()
		if l, e := discharge.ResponsesOf(n, frequencies); len(l) != 0 || e != want {
			t.Error(n, frequencies, l, e, want)
		}
		if len(frequencies) != 1 {
			return
		}
		if g, e := discharge.ResponseAt(n, frequencies[0]); g != (api.Gauss{}) || e != want {
			t.Error(n, frequencies, g, e, want)
		}
	}
	for _, x := range badNetworks() {
		bad(x.n, []int{1}, x.want)
		bad(x.n, []int{-1}, x.want)
		bad(x.n, make([]int, 9), x.want)
	}
	for _, x := range badFrequencies() {
		bad(network([3]int{1, 2, 3}), x.l, x.want)
	}
}

// P9.6: the eighth example, responses without a size, and the greatest ones.
func TestDifferencesOf(t *testing.T) {
	most := gauss(100000000, -100000000)
	for _, x := range []struct {
		before, after []api.Gauss
		ratio         api.Frac
		want          []int
	}{
		{[]api.Gauss{gauss(1, 2)}, []api.Gauss{gauss(1, 3)}, frac(3, 2), []int{0}},
		{[]api.Gauss{gauss(1, 2)}, []api.Gauss{gauss(1, 3)}, frac(2, 1), nil},
		{[]api.Gauss{gauss(1, 3)}, []api.Gauss{gauss(1, 2)}, frac(3, 2), []int{0}},
		{[]api.Gauss{gauss(1, 3)}, []api.Gauss{gauss(1, 2)}, frac(2, 1), nil},
		{[]api.Gauss{gauss(1, 3)}, []api.Gauss{gauss(1, 2)}, frac(99, 50), []int{0}},
		{nil, nil, frac(1, 1), nil},
		{[]api.Gauss{gauss(0, 0), gauss(0, 0), gauss(0, 1)}, []api.Gauss{gauss(0, 0), gauss(0, 1), gauss(0, 0)}, frac(100, 1), []int{1, 2}},
		{[]api.Gauss{gauss(3, 4), gauss(5, 0), gauss(-5, 1)}, []api.Gauss{gauss(0, -5), gauss(-4, 3), gauss(0, 5)}, frac(1, 1), []int{2}},
		{[]api.Gauss{gauss(1, 0), gauss(1, 0)}, []api.Gauss{gauss(10, 0), gauss(10, 1)}, frac(100, 1), []int{1}},
		{[]api.Gauss{most, most}, []api.Gauss{gauss(10000000, 10000000), gauss(10000000, 9999999)}, frac(100, 1), []int{1}},
		{[]api.Gauss{gauss(9999999, 10000000)}, []api.Gauss{most}, frac(100, 1), []int{0}},
		{[]api.Gauss{most}, []api.Gauss{gauss(100000000, 99999999)}, frac(1, 1), []int{0}},
		{[]api.Gauss{most}, []api.Gauss{gauss(100000000, 99999999)}, frac(100, 99), nil},
		{slices.Repeat([]api.Gauss{most}, 8), slices.Repeat([]api.Gauss{gauss(99000000, 100000000)}, 8), frac(1, 1), []int{0, 1, 2, 3, 4, 5, 6, 7}},
	} {
		if l, e := discharge.DifferencesOf(x.before, x.after, x.ratio); e != api.OK || !slices.Equal(l, x.want) {
			t.Error(x, l, e)
		}
	}
}

// wrongResponses is responses that are not valid, and their error.
type wrongResponses struct {
	l    []api.Gauss
	want api.Errno
}

// badResponses returns responses that are not valid.
func badResponses() []wrongResponses {
	many := make([]api.Gauss, 9)
	l := []wrongResponses{{many, api.ErrLarge}, {slices.Repeat([]api.Gauss{gauss(least, 0)}, 100), api.ErrLarge}}
	for _, n := range []int{100000001, -100000001, least, greatest} {
		l = append(l,
			wrongResponses{[]api.Gauss{gauss(n, 0)}, api.ErrRange},
			wrongResponses{[]api.Gauss{gauss(0, n)}, api.ErrRange},
			wrongResponses{append(slices.Clone(many[:7]), gauss(0, n)), api.ErrRange},
		)
	}
	return l
}

// P9.6: the errors of both lists, of their lengths, and of the ratio.
func TestDifferencesOfErrors(t *testing.T) {
	bad := func(before, after []api.Gauss, ratio api.Frac, want api.Errno) {
		t.Helper()
		if l, e := discharge.DifferencesOf(before, after, ratio); len(l) != 0 || e != want {
			t.Error(before, after, ratio, l, e, want)
		}
	}
	one := []api.Gauss{gauss(1, 2)}
	for _, x := range badResponses() {
		bad(x.l, one, frac(2, 1), x.want)
		bad(one, x.l, frac(2, 1), x.want)
		bad(x.l, nil, frac(0, 0), x.want)
		bad(nil, x.l, frac(0, 0), x.want)
	}
	bad([]api.Gauss{gauss(least, 0)}, make([]api.Gauss, 9), frac(0, 0), api.ErrRange)
	bad(make([]api.Gauss, 9), []api.Gauss{gauss(least, 0)}, frac(0, 0), api.ErrLarge)
	bad(one, nil, frac(0, 0), api.ErrShape)
	bad(nil, one, frac(2, 1), api.ErrShape)
	bad(make([]api.Gauss, 8), make([]api.Gauss, 7), frac(2, 1), api.ErrShape)
	for _, ratio := range []api.Frac{{}, frac(1, 0), frac(2, 2), frac(4, 2), frac(200, 2), frac(0, 2), frac(3, -2), frac(-3, -2), frac(least, 2), frac(1, least), frac(least, least), frac(greatest, greatest), frac(202, 200)} {
		bad(one, one, ratio, api.ErrForm)
		bad(nil, nil, ratio, api.ErrForm)
	}
	for _, ratio := range []api.Frac{frac(0, 1), frac(-1, 1), frac(-3, 2), frac(101, 1), frac(101, 100), frac(101, 102), frac(100, 101), frac(1, 101), frac(1, 2), frac(99, 100), frac(greatest, 1), frac(least, 1), frac(1, greatest), frac(least, greatest)} {
		bad(one, one, ratio, api.ErrRange)
		bad(nil, nil, ratio, api.ErrRange)
	}
}
