package surge_test

import (
	"iter"
	"math/big"
	"testing"

	"buchholz/api"
	"buchholz/surge"
)

// to returns the range from a number to another one.
func to(lo, hi int) api.Range {
	return api.Range{Lo: lo, Hi: hi}
}

// third is the ladder with ranges of the example 3.
func third() api.SurgeRanges {
	return api.SurgeRanges{Series: []api.Range{to(1, 2), to(2, 2)}, Earth: []api.Range{to(0, 1), to(0, 0)}, Earthed: true}
}

type badRanges struct {
	ranges api.SurgeRanges
	want   api.Errno
}

// allBadRanges returns ladders with ranges that are not valid.
func allBadRanges() []badRanges {
	good := make([]api.Range, 7)
	for i := range good {
		good[i] = to(1, 100)
	}
	of := func(series, earth []api.Range) api.SurgeRanges {
		return api.SurgeRanges{Series: series, Earth: earth, Earthed: len(series) == 2}
	}
	l := []badRanges{
		{api.SurgeRanges{}, api.ErrShape},
		{of([]api.Range{}, []api.Range{}), api.ErrShape},
		{of(nil, good[:1]), api.ErrShape},
		{of(good[:1], nil), api.ErrShape},
		{of(make([]api.Range, 2), good[:3]), api.ErrShape},
		{of(good, good[:6]), api.ErrShape},
		{of(good, good), api.ErrLarge},
		{of(make([]api.Range, 7), good), api.ErrLarge},
		{of([]api.Range{to(2, 1), to(0, 1)}, good[:2]), api.ErrOrder},
		{of([]api.Range{to(0, 1), to(2, 1)}, good[:2]), api.ErrRange},
	}
	for _, x := range []struct {
		series, earth api.Range
		want          api.Errno
	}{
		{to(0, 1), to(0, 0), api.ErrRange},
		{to(1, 0), to(0, 0), api.ErrRange},
		{to(1, 101), to(0, 0), api.ErrRange},
		{to(101, 1), to(0, 0), api.ErrRange},
		{to(least, greatest), to(0, 0), api.ErrRange},
		{to(1, 1), to(-1, 0), api.ErrRange},
		{to(1, 1), to(0, -1), api.ErrRange},
		{to(1, 1), to(0, 101), api.ErrRange},
		{to(1, 1), to(101, 0), api.ErrRange},
		{to(1, 1), to(least, greatest), api.ErrRange},
		{to(2, 1), to(0, 101), api.ErrRange}, // all ends before the order
		{to(2, 1), to(0, 0), api.ErrOrder},
		{to(100, 99), to(100, 100), api.ErrOrder},
		{to(1, 1), to(1, 0), api.ErrOrder},
		{to(100, 100), to(100, 99), api.ErrOrder},
	} {
		l = append(l,
			badRanges{of([]api.Range{x.series}, []api.Range{x.earth}), x.want},
			badRanges{of([]api.Range{good[0], x.series}, []api.Range{good[0], x.earth}), x.want},
			badRanges{of([]api.Range{x.series, to(1, 1), to(3, 3)}, []api.Range{x.earth, to(0, 0), to(3, 3)}), x.want},
		)
	}
	return l
}

// randomRanges returns a valid ladder with ranges, of so many sections at most, with capacitances of at most so much.
func randomRanges(r *numbers, sections, capacitance int) api.SurgeRanges {
	x := api.SurgeRanges{Earthed: r.below(2) == 0}
	for range r.from(1, sections) {
		a, b := r.from(1, capacitance), r.from(1, capacitance)
		c, d := r.from(0, capacitance), r.from(0, capacitance)
		x.Series = append(x.Series, to(min(a, b), max(a, b)))
		x.Earth = append(x.Earth, to(min(c, d), max(c, d)))
	}
	return x
}

// laddersOf yields the ladders whose capacitances are steps apart, from the lower ends of their ranges to the upper ones, all of the range with the step 1, both ends with the step 0.
func laddersOf(r api.SurgeRanges, step int) iter.Seq[api.SurgeLadder] {
	all := append(append([]api.Range{}, r.Series...), r.Earth...)
	n := len(r.Series)
	return func(yield func(api.SurgeLadder) bool) {
		values := make([]int, 2*n)
		var fill func(i int) bool
		fill = func(i int) bool {
			if i == 2*n {
				l := api.SurgeLadder{Series: append([]int{}, values[:n]...), Earth: append([]int{}, values[n:]...), Earthed: r.Earthed}
				for range n {
					l.Turns = append(l.Turns, 1)
				}
				return yield(l)
			}
			by := step
			if by == 0 {
				by = max(1, all[i].Hi-all[i].Lo)
			}
			for values[i] = all[i].Lo; values[i] <= all[i].Hi; values[i] += by {
				if !fill(i + 1) {
					return false
				}
			}
			return true
		}
		fill(0)
	}
}

// enclosed returns the least and the greatest ones of all initial voltages and stresses of ladders.
func enclosed(ladders iter.Seq[api.SurgeLadder]) (nodes, gaps [][2]*big.Rat) {
	for l := range ladders {
		u := solved(l)
		if nodes == nil {
			nodes, gaps = make([][2]*big.Rat, len(u)), make([][2]*big.Rat, len(u)-1)
		}
		for j := range u {
			widen(&nodes[j], u[j])
			if j > 0 {
				widen(&gaps[j-1], minus(u[j-1], u[j]))
			}
		}
	}
	return nodes, gaps
}

func widen(ends *[2]*big.Rat, x *big.Rat) {
	if ends[0] == nil || x.Cmp(ends[0]) < 0 {
		ends[0] = x
	}
	if ends[1] == nil || x.Cmp(ends[1]) > 0 {
		ends[1] = x
	}
}

// checkSpans compares the spans of all nodes and gaps with the ends of what ladders have.
func checkSpans(t *testing.T, r api.SurgeRanges, ladders iter.Seq[api.SurgeLadder]) {
	t.Helper()
	nodes, gaps := enclosed(ladders)
	for j, ends := range nodes {
		s, e := surge.NodeSpan(r, j)
		checkSpan(t, s, e, ends[0], ends[1], r, j)
	}
	for i, ends := range gaps {
		s, e := surge.GapSpan(r, i)
		checkSpan(t, s, e, ends[0], ends[1], r, i)
	}
}

// P4.3: ladders with ranges at their limits.
func TestCheckRanges(t *testing.T) {
	six := []api.Range{to(1, 1), to(1, 100), to(100, 100), to(1, 2), to(50, 60), to(99, 100)}
	for _, r := range []api.SurgeRanges{
		third(),
		{Series: []api.Range{to(1, 100)}, Earth: []api.Range{to(0, 100)}},
		{Series: six, Earth: make([]api.Range, 6)},
		{Series: six, Earth: six, Earthed: true},
	} {
		if e := surge.CheckRanges(r); e != api.OK {
			t.Error(r, e)
		}
	}
	for _, x := range allBadRanges() {
		if e := surge.CheckRanges(x.ranges); e != x.want {
			t.Error(x, e)
		}
	}
}

// P4.3: the spans of the example 3, and of the same ladder if it is open.
func TestSpans(t *testing.T) {
	open := third()
	open.Earthed = false
	for _, x := range []struct {
		r           api.SurgeRanges
		nodes, gaps []api.Span
	}{
		{third(),
			[]api.Span{{Lo: frac(1, 1), Hi: frac(1, 1)}, {Lo: frac(1, 4), Hi: frac(1, 2)}, {Lo: frac(0, 1), Hi: frac(0, 1)}},
			[]api.Span{{Lo: frac(1, 2), Hi: frac(3, 4)}, {Lo: frac(1, 4), Hi: frac(1, 2)}}},
		{open,
			[]api.Span{{Lo: frac(1, 1), Hi: frac(1, 1)}, {Lo: frac(1, 2), Hi: frac(1, 1)}, {Lo: frac(1, 2), Hi: frac(1, 1)}},
			[]api.Span{{Lo: frac(0, 1), Hi: frac(1, 2)}, {Lo: frac(0, 1), Hi: frac(0, 1)}}},
	} {
		for j, want := range x.nodes {
			if s, e := surge.NodeSpan(x.r, j); s != want || e != api.OK {
				t.Error(x, j, s, e)
			}
		}
		for i, want := range x.gaps {
			if s, e := surge.GapSpan(x.r, i); s != want || e != api.OK {
				t.Error(x, i, s, e)
			}
		}
	}
}

// P4.3: the errors of spans.
func TestSpanErrors(t *testing.T) {
	for _, x := range allBadRanges() {
		if s, e := surge.NodeSpan(x.ranges, -1); s != (api.Span{}) || e != x.want {
			t.Error(x, s, e)
		}
		if s, e := surge.GapSpan(x.ranges, -1); s != (api.Span{}) || e != x.want {
			t.Error(x, s, e)
		}
	}
	for _, node := range []int{-1, 3, least, greatest} {
		if s, e := surge.NodeSpan(third(), node); s != (api.Span{}) || e != api.ErrMissing {
			t.Error(node, s, e)
		}
	}
	for _, gap := range []int{-1, 2, least, greatest} {
		if s, e := surge.GapSpan(third(), gap); s != (api.Span{}) || e != api.ErrMissing {
			t.Error(gap, s, e)
		}
	}
}

// P4.3: only the parts of a span may be too large for it.
func TestLargeSpans(t *testing.T) {
	l := ladder(t, heavy)
	var r api.SurgeRanges
	for i := range l.Series {
		r.Series = append(r.Series, to(l.Series[i], l.Series[i]))
		r.Earth = append(r.Earth, to(l.Earth[i], l.Earth[i]))
	}
	if s, e := surge.NodeSpan(r, 0); s != (api.Span{Lo: frac(1, 1), Hi: frac(1, 1)}) || e != api.OK {
		t.Error(s, e)
	}
	if s, e := surge.NodeSpan(r, 1); s != (api.Span{}) || e != api.ErrLarge {
		t.Error(s, e)
	}
	if s, e := surge.GapSpan(r, 5); s != (api.Span{}) || e != api.ErrLarge {
		t.Error(s, e)
	}
	r.Earthed = true
	if s, e := surge.NodeSpan(r, 6); s != (api.Span{Lo: frac(0, 1), Hi: frac(0, 1)}) || e != api.OK {
		t.Error(s, e)
	}
}

// P4.3: the ends of spans are those of the ladders at all ends of the ranges.
func TestSpansByEnds(t *testing.T) {
	r := numbers(6)
	for i := range 150 {
		x := randomRanges(&r, 3, []int{5, 30, 100}[i%3])
		checkSpans(t, x, laddersOf(x, 0))
	}
	for i := range 4 {
		x := randomRanges(&r, 4+i%2, 100)
		checkSpans(t, x, laddersOf(x, 0))
	}
}

// P4.10: every ladder with whole capacitances is enclosed.
func TestSpansEnclose(t *testing.T) {
	r := numbers(7)
	for range 60 {
		x := randomRanges(&r, 2, 6)
		checkSpans(t, x, laddersOf(x, 1))
	}
	for range 20 {
		x := randomRanges(&r, 3, 3)
		checkSpans(t, x, laddersOf(x, 1))
	}
}

// P4.10: with ranges of one number both ends are the voltage, or the stress.
func TestSpansOfOneLadder(t *testing.T) {
	r := numbers(8)
	for i := range 500 {
		l := randomLadder(&r, []int{3, 20, 100}[i%3])
		x := api.SurgeRanges{Earthed: l.Earthed}
		for i := range l.Series {
			x.Series = append(x.Series, to(l.Series[i], l.Series[i]))
			x.Earth = append(x.Earth, to(l.Earth[i], l.Earth[i]))
		}
		checkSpans(t, x, func(yield func(api.SurgeLadder) bool) { yield(l) })
	}
}
