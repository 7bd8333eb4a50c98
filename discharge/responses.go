package discharge

import "buchholz/api"

// along returns the first row of a product of matrices, times the matrix of a section more.
// The parts of valid networks stay below 10^9, so that double precision keeps them as they are.
func along(row [2]complex128, s api.DischargeSection, frequency int) [2]complex128 {
	z := complex(float64(s.R), float64(frequency*s.L))
	y := complex(0, float64(frequency*s.C))
	return [2]complex128{row[0]*(1+z*y) + row[1]*y, row[0]*z + row[1]}
}

// responseAt returns the inverse response of a valid network at a valid frequency.
func responseAt(n api.DischargeNetwork, frequency int) api.Gauss {
	row := [2]complex128{1, 0}
	for _, s := range n.Sections {
		row = along(row, s, frequency)
	}
	return api.Gauss{Re: int(real(row[0])), Im: int(imag(row[0]))}
}

// squareOf returns the square of the size of a whole complex number.
func squareOf(g api.Gauss) int {
	return g.Re*g.Re + g.Im*g.Im
}

// differ returns whether two responses differ by a ratio, which is 1 or more.
func differ(a, b api.Gauss, ratio api.Frac) bool {
	first, second := squareOf(a), squareOf(b)
	return max(first, second)*ratio.Den > min(first, second)*ratio.Num
}

// ResponseAt returns the inverse response of a network at a frequency.
func ResponseAt(n api.DischargeNetwork, frequency int) (api.Gauss, api.Errno) {
	if e := firstOf(errorOf(CheckNetwork(n)), checkFrequencies(frequency)); e != api.OK {
		return api.Gauss{}, e
	}
	return responseAt(n, frequency), api.OK
}

// ResponsesOf returns the inverse responses of a network at frequencies.
func ResponsesOf(n api.DischargeNetwork, frequencies []int) ([]api.Gauss, api.Errno) {
	if e := firstOf(errorOf(CheckNetwork(n)), checkFrequencies(frequencies...)); e != api.OK {
		return nil, e
	}
	var l []api.Gauss
	for _, frequency := range frequencies {
		l = append(l, responseAt(n, frequency))
	}
	return l, api.OK
}

// DifferencesOf returns the indexes at which responses differ by a ratio.
func DifferencesOf(before, after []api.Gauss, ratio api.Frac) ([]int, api.Errno) {
	e := firstOf(
		checkResponses(before),
		checkResponses(after),
		sameCount(len(before), len(after)),
		checkRatio(ratio),
	)
	if e != api.OK {
		return nil, e
	}
	var indexes []int
	for i := range before {
		if differ(before[i], after[i], ratio) {
			indexes = append(indexes, i)
		}
	}
	return indexes, api.OK
}
