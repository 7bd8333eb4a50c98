package wave

import "buchholz/api"

// comparison is valid rules, and the samples of a reduced and of a full record at the same times.
type comparison struct {
	rules         api.WaveRules
	reduced, full []int
}

// condition is that a number times the factor is at most a limit.
type condition struct{ times, limit int }

// checkTimes refuses records that do not have their samples at the same times.
func checkTimes(x api.WavePair) api.Errno {
	if x.Reduced.Step != x.Full.Step || len(x.Reduced.Samples) != len(x.Full.Samples) {
		return api.ErrShape
	}
	return api.OK
}

func comparisonOf(r api.WaveRules, x api.WavePair) (comparison, api.Errno) {
	if e := firstOf(CheckRules(r), CheckRecord(x.Reduced), CheckRecord(x.Full), checkTimes(x)); e != api.OK {
		return comparison{}, e
	}
	return comparison{rules: r, reduced: x.Reduced.Samples, full: x.Full.Samples}, api.OK
}

// conditions returns when a factor is compatible with the samples at an index: the range of the full true sample, and that of the factor times the reduced one, have a number in common if neither of them begins after the end of the other.
func (c comparison) conditions(index int) [2]condition {
	x := around(c.reduced[index], c.rules.Error)
	y := around(c.full[index], c.rules.Error)
	return [2]condition{{times: x.Lo, limit: y.Hi}, {times: -x.Hi, limit: -y.Lo}}
}

// narrowed returns the factors of a span that meet a condition, and whether there are any.
func (k condition) narrowed(s api.Span) (api.Span, bool) {
	if k.times == 0 {
		return s, k.limit >= 0
	}
	if k.times > 0 {
		s.Hi = lesser(s.Hi, reduced(k.limit, k.times))
	} else {
		s.Lo = greater(s.Lo, reduced(-k.limit, -k.times))
	}
	return s, !isLess(s.Hi, s.Lo)
}

// factors returns the factors that are compatible with the samples at indexes, and whether there are any.
func (c comparison) factors(indexes ...int) (api.Span, bool) {
	s := c.rules.Factors
	for _, index := range indexes {
		for _, k := range c.conditions(index) {
			narrowed, is := k.narrowed(s)
			if !is {
				return api.Span{}, false
			}
			s = narrowed
		}
	}
	return s, true
}

// prove returns whether indexes prove that the records differ for all errors.
func (c comparison) prove(indexes ...int) bool {
	_, is := c.factors(indexes...)
	return !is
}

// indexes returns the indexes of all samples.
func (c comparison) indexes() []int {
	var all []int
	for index := range c.reduced {
		all = append(all, index)
	}
	return all
}

// witness returns the minimum set of indexes that proves it, or nothing. No more than two are needed: if any two of some spans have a number in common, all of them have one.
func (c comparison) witness() []int {
	all := c.indexes()
	for _, index := range all {
		if c.prove(index) {
			return []int{index}
		}
	}
	for i, first := range all {
		for _, second := range all[i+1:] {
			if c.prove(first, second) {
				return []int{first, second}
			}
		}
	}
	return nil
}

// checkIndexes refuses what is not a set of indexes of samples: it returns the first wrong position, and its error.
func (c comparison) checkIndexes(indexes []int) (int, api.Errno) {
	for i, index := range indexes {
		if index < 0 || index >= len(c.reduced) {
			return i, api.ErrMissing
		}
		if i > 0 && index <= indexes[i-1] {
			return i, api.ErrOrder
		}
	}
	return 0, api.OK
}

// FactorsOf returns the minimum and the maximum of the compatible factors.
func FactorsOf(r api.WaveRules, a, b api.WaveRecord) (api.Span, api.Errno) {
	c, e := comparisonOf(r, api.WavePair{Reduced: a, Full: b})
	if e != api.OK {
		return api.Span{}, e
	}
	s, is := c.factors(c.indexes()...)
	if !is {
		return api.Span{}, api.ErrClash
	}
	return s, api.OK
}

// DifferenceOf returns whether two records differ for all errors.
func DifferenceOf(r api.WaveRules, a, b api.WaveRecord) (int, api.Errno) {
	c, e := comparisonOf(r, api.WavePair{Reduced: a, Full: b})
	if e != api.OK {
		return 0, e
	}
	switch {
	case c.prove(c.indexes()...):
		return api.AnswerYes, api.OK
	case r.Error == 0:
		return api.AnswerNo, api.OK
	}
	return api.AnswerMaybe, api.OK
}

// WitnessOf returns the minimum set of indexes that proves that two records differ for all errors.
func WitnessOf(r api.WaveRules, a, b api.WaveRecord) ([]int, api.Errno) {
	c, e := comparisonOf(r, api.WavePair{Reduced: a, Full: b})
	if e != api.OK {
		return nil, e
	}
	witness := c.witness()
	if witness == nil {
		return nil, api.ErrNone
	}
	return witness, api.OK
}

// CheckWitness accepts indexes that prove that two records differ for all errors: it returns the first wrong position, and its error.
func CheckWitness(r api.WaveRules, x api.WavePair, witness []int) (int, api.Errno) {
	c, e := comparisonOf(r, x)
	if e != api.OK {
		return 0, e
	}
	if i, e := c.checkIndexes(witness); e != api.OK {
		return i, e
	}
	if !c.prove(witness...) {
		return 0, api.ErrProof
	}
	return 0, api.OK
}
