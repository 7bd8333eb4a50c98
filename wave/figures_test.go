package wave_test

import (
	"slices"
	"testing"

	"buchholz/api"
	"buchholz/wave"
)

// firstIndex returns the first index from a start on with what is asked, or -1.
func firstIndex(l []int, start int, is func(int) bool) int {
	for i := start; i < len(l); i++ {
		if is(l[i]) {
			return i
		}
	}
	return -1
}

// peakIndex returns the first index of the maximum.
func peakIndex(l []int) int {
	return slices.Index(l, slices.Max(l))
}

// figuresBy returns the figures of a record, by the words of their definition.
func figuresBy(x api.WaveRecord, e int) (api.WaveFigures, api.Errno) {
	at := peakIndex(x.Samples)
	lo, hi := x.Samples[at]-e, x.Samples[at]+e
	if lo <= 0 {
		return api.WaveFigures{}, api.ErrOpen
	}
	level := func(p int) api.Range {
		return span(
			firstIndex(x.Samples, 0, func(n int) bool { return 10*(n+e) >= p*lo }),
			firstIndex(x.Samples, 0, func(n int) bool { return 10*(n-e) >= p*hi }),
		)
	}
	half := span(
		firstIndex(x.Samples, at+1, func(n int) bool { return 2*(n-e) <= hi }),
		firstIndex(x.Samples, at+1, func(n int) bool { return 2*(n+e) <= lo }),
	)
	f := api.WaveFigures{At: at, Peak: span(lo, hi), T30: level(3), T90: level(9), Half: half}
	if f.T30.Hi < 0 || f.T90.Hi < 0 || f.Half.Hi < 0 {
		return api.WaveFigures{}, api.ErrNone
	}
	return f, api.OK
}

// P8.2: the peak of the first example, of records with several maxima, and of those without a peak above 0.
func TestPeakOf(t *testing.T) {
	for _, x := range []struct {
		x    api.WaveRecord
		e    int
		at   int
		peak api.Range
	}{
		{first(), 1, 3, span(99, 101)},
		{first(), 0, 3, span(100, 100)},
		{first(), 100, 3, span(0, 200)},
		{record(1, 5, 7, 7, 7, 5), 2, 1, span(5, 9)},
		{record(1, 7, 6, 7), 0, 0, span(7, 7)},
		{record(1, 1, 2, 3), 0, 2, span(3, 3)},
		{record(1, 0, 0, 0), 3, 0, span(-3, 3)},
		{record(1, -5, -4, -4), 1, 1, span(-5, -3)},
		{record(1, -4096, -4096, -4096), 100, 0, span(-4196, -3996)},
		{record(1, 0, 0, 4096), 100, 2, span(3996, 4196)},
	} {
		if at, peak, e := wave.PeakOf(plain(x.e), x.x); at != x.at || peak != x.peak || e != api.OK {
			t.Error(x, at, peak, e)
		}
	}
}

// P8.2: the errors of records, after those of rules.
func TestPeakAndFiguresErrors(t *testing.T) {
	for _, x := range badRecords() {
		if i, p, e := wave.PeakOf(plain(1), x.x); i != 0 || p != (api.Range{}) || e != x.want {
			t.Error(x, i, p, e)
		}
		if f, e := wave.FiguresOf(plain(1), x.x); f != (api.WaveFigures{}) || e != x.want {
			t.Error(x, f, e)
		}
		if f, e := wave.FiguresOf(plain(-1), x.x); f != (api.WaveFigures{}) || e != api.ErrRange {
			t.Error(x, f, e)
		}
	}
}

// P8.2: the first example, and ranges that begin at the index 0, or end at the last one.
func TestFiguresOf(t *testing.T) {
	for _, x := range []struct {
		x    api.WaveRecord
		e    int
		want api.WaveFigures
	}{
		{first(), 1, firstFigures()},
		{first(), 0, api.WaveFigures{At: 3, Peak: span(100, 100), T30: span(1, 1), T90: span(3, 3), Half: span(7, 7)}},
		{first(), 2, api.WaveFigures{At: 3, Peak: span(98, 102), T30: span(1, 2), T90: span(3, 3), Half: span(6, 7)}},
		{record(1, 100, 90, 40), 0, api.WaveFigures{At: 0, Peak: span(100, 100), Half: span(2, 2)}},
		{record(1, 29, 100, 48), 1, api.WaveFigures{At: 1, Peak: span(99, 101), T30: span(0, 1), T90: span(1, 1), Half: span(2, 2)}}, // from 0 on
		{record(1, 89, 90, 100, 50), 0, api.WaveFigures{At: 2, Peak: span(100, 100), T90: span(1, 1), Half: span(3, 3)}},             // exactly nine tenths, and exactly the half
		{record(1, 29, 30, 31, 100, 51, 50), 0, api.WaveFigures{At: 3, Peak: span(100, 100), T30: span(1, 1), T90: span(3, 3), Half: span(5, 5)}},
		{record(1, 100, 51, 50, 48, 49), 1, api.WaveFigures{At: 0, Peak: span(99, 101), Half: span(1, 3)}}, // 51 - 1 may be half of 101, 48 + 1 is at most half of 99
		{record(1, 0, 10, 0, 10, 0), 0, api.WaveFigures{At: 1, Peak: span(10, 10), T30: span(1, 1), T90: span(1, 1), Half: span(2, 2)}},
		{record(1, 0, 5, 0, 10, 0), 0, api.WaveFigures{At: 3, Peak: span(10, 10), T30: span(1, 1), T90: span(3, 3), Half: span(4, 4)}}, // the half is behind the peak alone
		{record(1, 1, 0, -5), 0, api.WaveFigures{At: 0, Peak: span(1, 1), Half: span(1, 1)}},
	} {
		if f, e := wave.FiguresOf(plain(x.e), x.x); f != x.want || e != api.OK {
			t.Error(x, f, e)
		}
	}
}

// P8.2: records without figures.
func TestFiguresOfNothing(t *testing.T) {
	for _, x := range []struct {
		x    api.WaveRecord
		e    int
		want api.Errno
	}{
		{record(1, 0, 0, 0), 0, api.ErrOpen},
		{record(1, 0, 5, 0), 5, api.ErrOpen}, // the maximum is not above the error
		{record(1, 0, 5, 0), 6, api.ErrOpen},
		{record(1, -1, -2, -3), 0, api.ErrOpen},
		{record(1, 0, 100, 0), 100, api.ErrOpen},
		{record(1, 0, 6, 0), 5, api.ErrNone},            // 6 - 5 is not 3 tenths of 6 + 5
		{record(1, 10, 100, -300), 54, api.ErrNone},     // 46 is 3 tenths of 154, but not 9 tenths
		{record(1, 0, 100, 51), 0, api.ErrNone},         // it ends before it has fallen to its half
		{record(1, 0, 100, 49), 1, api.ErrNone},         // it may have fallen, or may not
		{record(1, 0, 50, 100), 0, api.ErrNone},         // nothing follows the peak
		{record(1, 100, 100, 100), 0, api.ErrNone},      // the half is after the first maximum
		{record(1, 0, 100, 90, 80, 70), 0, api.ErrNone}, // still falling
		{record(1, 0, 0, 100), 0, api.ErrNone},
	} {
		if f, e := wave.FiguresOf(plain(x.e), x.x); f != (api.WaveFigures{}) || e != x.want {
			t.Error(x, f, e)
		}
	}
	for e := range 101 { // a rectangle with the height 100
		want := api.OK
		if 10*(100-e) < 9*(100+e) {
			want = api.ErrNone
		}
		if e == 100 {
			want = api.ErrOpen
		}
		if _, got := wave.FiguresOf(plain(e), record(1, 0, 100, -4096)); got != want {
			t.Error(e, got, want)
		}
	}
}

// P8.2: the figures of all sorts of records.
func TestFiguresByDefinition(t *testing.T) {
	r := numbers(4)
	seen := map[api.Errno]int{}
	for range 20000 {
		rule := r.rules(r.oneOf(0, 3, 20, 100))
		x := r.impulse()
		if r.below(3) == 0 {
			x = record(1, r.samples(r.from(3, 12), r.oneOf(3, 20, 4096))...)
		}
		want, wanted := figuresBy(x, rule.Error)
		f, e := wave.FiguresOf(rule, x)
		if f != want || e != wanted {
			t.Fatal(rule, x, f, e, want, wanted)
		}
		seen[e]++
		at, peak, e := wave.PeakOf(rule, x)
		if m := slices.Max(x.Samples); at != peakIndex(x.Samples) || peak != span(m-rule.Error, m+rule.Error) || e != api.OK {
			t.Fatal(rule, x, at, peak, e)
		}
	}
	if min(seen[api.OK], seen[api.ErrNone], seen[api.ErrOpen]) < 1000 {
		t.Error(seen)
	}
}

// badFigures returns figures that are not valid, with their errors.
func badFigures() map[api.WaveFigures]api.Errno {
	bad := map[api.WaveFigures]api.Errno{{}: api.ErrRange} // the peak 0
	add := func(want api.Errno, change func(*api.WaveFigures)) {
		f := firstFigures()
		change(&f)
		bad[f] = want
	}
	for _, n := range []int{-1, 64, greatest, least} {
		add(api.ErrRange, func(f *api.WaveFigures) { f.At = n })
		add(api.ErrRange, func(f *api.WaveFigures) { f.T30.Lo = n })
		add(api.ErrRange, func(f *api.WaveFigures) { f.T30.Hi = n })
		add(api.ErrRange, func(f *api.WaveFigures) { f.T90.Lo = n })
		add(api.ErrRange, func(f *api.WaveFigures) { f.T90.Hi = n })
		add(api.ErrRange, func(f *api.WaveFigures) { f.Half.Lo = n })
		add(api.ErrRange, func(f *api.WaveFigures) { f.Half.Hi = n })
		add(api.ErrRange, func(f *api.WaveFigures) { f.At, f.T30 = n, span(2, 1) })
	}
	for _, n := range []int{0, -1, 4197, greatest, least} {
		add(api.ErrRange, func(f *api.WaveFigures) { f.Peak.Lo = n })
		add(api.ErrRange, func(f *api.WaveFigures) { f.Peak.Hi = n })
		add(api.ErrRange, func(f *api.WaveFigures) { f.Peak.Hi, f.Half = n, span(8, 7) }) // before the order
	}
	add(api.ErrOrder, func(f *api.WaveFigures) { f.Peak = span(101, 100) })
	add(api.ErrOrder, func(f *api.WaveFigures) { f.T30 = span(2, 1) })
	add(api.ErrOrder, func(f *api.WaveFigures) { f.T90 = span(63, 0) })
	add(api.ErrOrder, func(f *api.WaveFigures) { f.Half = span(8, 7) })
	return bad
}

// P8.2: figures, up to the limits, also such as no record has.
func TestCheckFigures(t *testing.T) {
	for _, f := range []api.WaveFigures{
		firstFigures(),
		{Peak: span(1, 1)},
		{At: 63, Peak: span(4196, 4196), T30: span(63, 63), T90: span(63, 63), Half: span(63, 63)},
		{At: 0, Peak: span(1, 4196), T30: span(0, 63), T90: span(0, 63), Half: span(0, 63)},
		{At: 9, Peak: span(5, 6), T30: span(20, 21), T90: span(10, 11), Half: span(1, 2)},
	} {
		if e := wave.CheckFigures(f); e != api.OK {
			t.Error(f, e)
		}
	}
	r := numbers(5)
	for range 1000 {
		if f, e := wave.FiguresOf(plain(r.from(0, 10)), r.impulse()); e == api.OK && wave.CheckFigures(f) != api.OK {
			t.Fatal(f)
		}
	}
}

// P8.2: figures that are not valid, for all functions of figures.
func TestFiguresErrors(t *testing.T) {
	for f, want := range badFigures() {
		if e := wave.CheckFigures(f); e != want {
			t.Error(f, e, want)
		}
		for _, step := range []int{1, 0} {
			if r, e := wave.FrontOf(f, step); r != (api.Range{}) || e != want {
				t.Error(f, step, r, e, want)
			}
			if r, e := wave.TailOf(f, step); r != (api.Range{}) || e != want {
				t.Error(f, step, r, e, want)
			}
		}
		if r, e := wave.VoltageOf(plain(1), f); r != (api.Range{}) || e != want {
			t.Error(f, r, e, want)
		}
	}
}

// trueSamples returns samples in quarters of a count that differ from those of a record by at most an error.
func trueSamples(r *numbers, x api.WaveRecord, e int) []int {
	var l []int
	kind := r.below(4)
	for _, n := range x.Samples {
		by := []int{-4 * e, 4 * e, r.oneOf(-4*e, 4*e), r.from(-4*e, 4*e)}[kind]
		l = append(l, 4*n+by)
	}
	return l
}

// P8.7: the figures enclose what they are for all true samples.
func TestFiguresEnclose(t *testing.T) {
	r := numbers(6)
	found := 0
	for range 4000 {
		e, x := r.oneOf(0, 1, 2, 5, 20, 60), r.impulse()
		f, failed := wave.FiguresOf(plain(e), x)
		_, peak, none := wave.PeakOf(plain(e), x)
		isOK(t, none)
		for range 10 {
			l := trueSamples(&r, x, e)
			most := slices.Max(l)
			if !isIn(span(most, most), span(4*peak.Lo, 4*peak.Hi)) {
				t.Fatal(x, e, l, peak)
			}
			if failed != api.OK {
				continue
			}
			found++
			t30 := firstIndex(l, 0, func(n int) bool { return 10*n >= 3*most })
			t90 := firstIndex(l, 0, func(n int) bool { return 10*n >= 9*most })
			half := firstIndex(l, f.At+1, func(n int) bool { return 2*n <= most })
			if !isIn(span(t30, t30), f.T30) || !isIn(span(t90, t90), f.T90) || !isIn(span(half, half), f.Half) {
				t.Fatal(x, e, l, f, t30, t90, half)
			}
		}
	}
	if found < 10000 {
		t.Error(found)
	}
}

// P8.8: with a greater error no range of the figures becomes narrower; so they exist with a lesser one, too.
func TestWiderErrors(t *testing.T) {
	r := numbers(7)
	for range 2000 {
		x := r.impulse()
		var last api.WaveFigures
		isOpen := false
		for e := range 101 {
			f, failed := wave.FiguresOf(plain(e), x)
			if failed != api.OK {
				isOpen = true
				continue
			}
			if isOpen {
				t.Fatal(x, e, f)
			}
			if e > 0 && (!isIn(last.Peak, f.Peak) || !isIn(last.T30, f.T30) || !isIn(last.T90, f.T90) || !isIn(last.Half, f.Half)) {
				t.Fatal(x, e, last, f)
			}
			last = f
		}
	}
}
