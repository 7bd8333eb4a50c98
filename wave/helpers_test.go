package wave_test

import (
	"math"
	"math/big"
	"slices"
	"testing"

	"buchholz/api"
)

const (
	least    = math.MinInt
	greatest = math.MaxInt
)

// numbers is a sequence of numbers that look as if they were random, and are always the same ones.
type numbers uint64

// below returns a number from 0 to n - 1.
func (r *numbers) below(n int) int {
	*r = *r*6364136223846793005 + 1442695040888963407
	return int(uint64(*r) >> 33 % uint64(n))
}

// from returns a number from lo to hi.
func (r *numbers) from(lo, hi int) int {
	return lo + r.below(hi-lo+1)
}

// oneOf returns one of some numbers.
func (r *numbers) oneOf(l ...int) int {
	return l[r.below(len(l))]
}

// between returns a range of numbers from lo to hi, which is often a single one.
func (r *numbers) between(lo, hi int) api.Range {
	a, b := r.from(lo, hi), r.from(lo, hi)
	if r.below(3) == 0 {
		b = a
	}
	return span(min(a, b), max(a, b))
}

// frac returns a fraction in lowest terms whose parts are from 1 to most.
func (r *numbers) frac(most int) api.Frac {
	return fracOf(big.NewRat(int64(r.from(1, most)), int64(r.from(1, most))))
}

// factor returns a span of fractions whose parts are from 1 to most.
func (r *numbers) factor(most int) api.Span {
	a, b := r.frac(most), r.frac(most)
	if ratOf(a).Cmp(ratOf(b)) > 0 {
		return api.Span{Lo: b, Hi: a}
	}
	return api.Span{Lo: a, Hi: b}
}

// rules returns valid rules with an error of at most so much.
func (r *numbers) rules(most int) api.WaveRules {
	x := rules(r.from(0, most), r.factor(r.oneOf(5, 1000)))
	parts := r.oneOf(5, 50, 1000)
	for range r.below(5) {
		x.Chain = append(x.Chain, r.factor(parts))
	}
	return x
}

// samples returns so many samples that are at most so great in size.
func (r *numbers) samples(count, most int) []int {
	l := make([]int, count)
	for i := range l {
		l[i] = r.from(-most, most)
	}
	return l
}

// impulse returns a record that rises and falls, with some noise.
func (r *numbers) impulse() api.WaveRecord {
	front, tail, height := r.from(0, 12), r.from(2, 30), r.oneOf(10, 100, 1000, 3900)
	x := record(r.oneOf(1, 7, 1000000))
	for i := range front {
		x.Samples = append(x.Samples, height*i/front)
	}
	for i := range tail {
		x.Samples = append(x.Samples, height*(tail-i)/tail)
	}
	if r.below(2) == 0 {
		x.Samples = append(x.Samples, 0)
	}
	for i := range x.Samples {
		noise := height / r.oneOf(10, 30, 100)
		x.Samples[i] += r.from(-noise/2, noise/2)
	}
	x.Samples = x.Samples[:min(len(x.Samples), 64)]
	for len(x.Samples) < 3 {
		x.Samples = append(x.Samples, 0)
	}
	return x
}

// figures returns valid figures.
func (r *numbers) figures() api.WaveFigures {
	return api.WaveFigures{
		At:   r.from(0, 63),
		Peak: r.between(1, 4196),
		T30:  r.between(0, 63),
		T90:  r.between(0, 63),
		Half: r.between(0, 63),
	}
}

// span returns a range.
func span(lo, hi int) api.Range {
	return api.Range{Lo: lo, Hi: hi}
}

// frac returns a fraction.
func frac(num, den int) api.Frac {
	return api.Frac{Num: num, Den: den}
}

// factor returns a span, by the parts of its ends.
func factor(lowNum, lowDen, highNum, highDen int) api.Span {
	return api.Span{Lo: frac(lowNum, lowDen), Hi: frac(highNum, highDen)}
}

// record returns a record.
func record(step int, samples ...int) api.WaveRecord {
	return api.WaveRecord{Step: step, Samples: samples}
}

// rules returns rules.
func rules(e int, factors api.Span, chain ...api.Span) api.WaveRules {
	return api.WaveRules{Error: e, Factors: factors, Chain: chain}
}

// plain returns rules with an error, and the factors 1 to 4.
func plain(e int) api.WaveRules {
	return rules(e, factor(1, 1, 4, 1))
}

// first returns the record of the first example.
func first() api.WaveRecord {
	return record(1, 0, 30, 60, 100, 90, 70, 52, 40, 20)
}

// firstFigures returns the figures of the first example.
func firstFigures() api.WaveFigures {
	return api.WaveFigures{At: 3, Peak: span(99, 101), T30: span(1, 2), T90: span(3, 3), Half: span(7, 7)}
}

// ratOf returns a fraction without limits.
func ratOf(f api.Frac) *big.Rat {
	return big.NewRat(int64(f.Num), int64(f.Den))
}

// rat returns a whole number as a fraction without limits.
func rat(n int) *big.Rat {
	return big.NewRat(int64(n), 1)
}

// fracOf returns a fraction with limits.
func fracOf(x *big.Rat) api.Frac {
	return frac(int(x.Num().Int64()), int(x.Denom().Int64()))
}

// isRat returns whether a fraction is in lowest terms, and has a value.
func isRat(f api.Frac, want *big.Rat) bool {
	return want.Num().IsInt64() && want.Denom().IsInt64() && f == fracOf(want)
}

// floorOf returns a number rounded down.
func floorOf(x *big.Rat) int {
	n := new(big.Int)
	return int(n.Div(x.Num(), x.Denom()).Int64()) // for a denominator above 0, Div rounds down
}

// ceilOf returns a number rounded up.
func ceilOf(x *big.Rat) int {
	return -floorOf(new(big.Rat).Neg(x))
}

// times returns a product.
func times(a, b *big.Rat) *big.Rat {
	return new(big.Rat).Mul(a, b)
}

// plus returns a sum.
func plus(a, b *big.Rat) *big.Rat {
	return new(big.Rat).Add(a, b)
}

// over returns a quotient.
func over(a, b *big.Rat) *big.Rat {
	return new(big.Rat).Quo(a, b)
}

// isIn returns whether a range lies in another one.
func isIn(a, b api.Range) bool {
	return b.Lo <= a.Lo && a.Hi <= b.Hi
}

// roomy returns the same items with room behind them.
func roomy[T any](l []T) []T {
	return slices.Grow(slices.Clone(l), 8)
}

// isOK fails the test if there is an error.
func isOK(t *testing.T, e api.Errno) {
	t.Helper()
	if e != api.OK {
		t.Fatal(e)
	}
}

// wrongRecord is a record that is not valid, and its error.
type wrongRecord struct {
	x    api.WaveRecord
	want api.Errno
}

// badRecords returns records that are not valid.
func badRecords() []wrongRecord {
	many := make([]int, 65)
	wrong := slices.Clone(many)
	wrong[0] = 5000
	return []wrongRecord{
		{record(0, 1, 2, 3), api.ErrRange},
		{record(-1, 1, 2, 3), api.ErrRange},
		{record(1000001, 1, 2, 3), api.ErrRange},
		{record(greatest, 1, 2, 3), api.ErrRange},
		{record(least, 1, 2, 3), api.ErrRange},
		{record(0), api.ErrRange},
		{record(0, many...), api.ErrRange},
		{record(1), api.ErrShape},
		{record(1, 5), api.ErrShape},
		{record(1, 5, 6), api.ErrShape},
		{record(1, 5000, 6), api.ErrShape},
		{record(1, many...), api.ErrLarge},
		{record(1, wrong...), api.ErrLarge},
		{record(1, make([]int, 1000)...), api.ErrLarge},
		{record(1, 4097, 0, 0), api.ErrRange},
		{record(1, 0, -4097, 0), api.ErrRange},
		{record(1, 0, 0, 4097), api.ErrRange},
		{record(1, 0, 0, greatest), api.ErrRange},
		{record(1, least, 0, 0), api.ErrRange},
	}
}

// wrongRules is rules that are not valid, and their error.
type wrongRules struct {
	r    api.WaveRules
	want api.Errno
}

// badFactors returns factors that are not valid, with their errors.
func badFactors() map[api.Span]api.Errno {
	return map[api.Span]api.Errno{
		{}:                            api.ErrForm,
		factor(1, 1, 0, 0):            api.ErrForm,
		factor(1, 0, 1, 1):            api.ErrForm,
		factor(1, 1, 1, 0):            api.ErrForm,
		factor(2, 2, 4, 1):            api.ErrForm,
		factor(1, 1, 4, 2):            api.ErrForm,
		factor(1, 1, 10, 4):           api.ErrForm,
		factor(1, -1, 1, 1):           api.ErrForm,
		factor(1, 1, -1, -1):          api.ErrForm,
		factor(0, 2, 1, 1):            api.ErrForm,
		factor(0, 0, 1, 1):            api.ErrForm,
		factor(-2, 4, 1, 1):           api.ErrForm,
		factor(2000, 4000, 1, 1):      api.ErrForm,
		factor(least, 2, 1, 1):        api.ErrForm,
		factor(1, least, 1, 1):        api.ErrForm,
		factor(least, least, 1, 1):    api.ErrForm,
		factor(1001, 1, 2, 2):         api.ErrForm, // the form of both comes first
		factor(2, 1, 2, 2):            api.ErrForm,
		factor(0, 1, 1, 1):            api.ErrRange,
		factor(-1, 1, 1, 1):           api.ErrRange,
		factor(1, 1, 0, 1):            api.ErrRange,
		factor(1, 1, -3, 2):           api.ErrRange,
		factor(1001, 1, 1001, 1):      api.ErrRange,
		factor(1, 1, 1001, 1):         api.ErrRange,
		factor(1, 1001, 1, 1):         api.ErrRange,
		factor(1, 1, 1000, 1001):      api.ErrRange,
		factor(1, 1, 1002, 1001):      api.ErrRange,
		factor(2, 1, 0, 1):            api.ErrRange, // before the order
		factor(1, greatest, 1, 1):     api.ErrRange,
		factor(greatest, 1, 1, 1):     api.ErrRange,
		factor(least, 1, 1, 1):        api.ErrRange,
		factor(least, greatest, 1, 1): api.ErrRange,
		factor(2, 1, 1, 1):            api.ErrOrder,
		factor(1, 2, 1, 3):            api.ErrOrder,
		factor(2, 3, 665, 998):        api.ErrOrder,
		factor(1000, 999, 999, 998):   api.OK,
		factor(1000, 1, 1, 1000):      api.ErrOrder,
		factor(999, 998, 1000, 999):   api.ErrOrder,
	}
}

// badRules returns rules that are not valid.
func badRules() []wrongRules {
	one := factor(1, 1, 1, 1)
	l := []wrongRules{
		{api.WaveRules{}, api.ErrForm},
		{rules(-1, one), api.ErrRange},
		{rules(101, one), api.ErrRange},
		{rules(greatest, one), api.ErrRange},
		{rules(least, one), api.ErrRange},
		{rules(-1, api.Span{}), api.ErrRange},
		{rules(101, factor(2, 1, 1, 1)), api.ErrRange},
		{rules(1, one, one, one, one, one, one), api.ErrLarge},
		{rules(1, one, api.Span{}, one, one, one, one), api.ErrLarge},
		{rules(1, factor(2, 1, 1, 1), one, one, one, one, one), api.ErrOrder},
		{rules(1, one, factor(2, 1, 1, 1), api.Span{}), api.ErrOrder},
		{rules(1, one, one, one, api.Span{}, factor(2, 1, 1, 1)), api.ErrForm},
	}
	for f, want := range badFactors() {
		if want != api.OK {
			l = append(l, wrongRules{rules(0, f), want}, wrongRules{rules(0, f, api.Span{}), want})
			l = append(l, wrongRules{rules(0, one, f), want}, wrongRules{rules(100, one, one, one, one, f), want})
		}
	}
	return l
}
