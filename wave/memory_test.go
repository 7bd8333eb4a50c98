package wave_test

import (
	"reflect"
	"slices"
	"testing"

	"buchholz/api"
	"buchholz/wave"
)

// isBehind fails the test if there are other than zero values behind the end of a slice.
func isBehind[T any](t *testing.T, l []T) {
	t.Helper()
	if behind := l[len(l):cap(l)]; !reflect.DeepEqual(behind, make([]T, len(behind))) {
		t.Error(l, behind)
	}
}

// different returns rules with a chain, and a pair of records that differ for all errors.
func different() (api.WaveRules, api.WavePair) {
	r := rules(0, factor(1, 1, 4, 1), factor(2, 1, 5, 2), factor(1, 1, 3, 2))
	return r, pair([]int{0, 10, 5}, []int{0, 20, 13})
}

// R3: no function changes records, rules or indexes, not even behind their ends.
func TestArgumentsAreKept(t *testing.T) {
	r, x := different()
	r.Chain, x.Reduced.Samples, x.Full.Samples = roomy(r.Chain), roomy(x.Reduced.Samples), roomy(x.Full.Samples)
	impulse, witness := first(), roomy([]int{1, 2})
	impulse.Samples = roomy(impulse.Samples)
	wave.CheckRecord(impulse)
	wave.CheckRules(r)
	wave.ScaleOf(r)
	wave.PeakOf(r, impulse)
	wave.FiguresOf(r, impulse)
	wave.VoltageOf(r, firstFigures())
	wave.FactorsOf(r, x.Reduced, x.Full)
	wave.DifferenceOf(r, x.Reduced, x.Full)
	wave.WitnessOf(r, x.Reduced, x.Full)
	wave.CheckWitness(r, x, witness)
	wave.FormatRecord(impulse)
	wave.FormatRules(r)
	sameRules, samePair := different()
	if !reflect.DeepEqual(r, sameRules) || !reflect.DeepEqual(x, samePair) {
		t.Error(r, x)
	}
	if !reflect.DeepEqual(impulse, first()) || !slices.Equal(witness, []int{1, 2}) {
		t.Error(impulse, witness)
	}
	isBehind(t, r.Chain)
	isBehind(t, x.Reduced.Samples)
	isBehind(t, x.Full.Samples)
	isBehind(t, impulse.Samples)
	isBehind(t, witness)
}

// R3: a change of a result changes neither arguments nor later results.
func TestResultsAreNew(t *testing.T) {
	r, x := different()
	for name, call := range map[string]func() any{
		"WitnessOf":   func() any { l, _ := wave.WitnessOf(r, x.Reduced, x.Full); return l },
		"ParseRecord": func() any { x, _ := wave.ParseRecord("1 10 30 60"); return x.Samples },
		"ParseRules":  func() any { r, _ := wave.ParseRules("1;1/1 4/1;2/1 5/2;1/1 3/2"); return r.Chain },
	} {
		got, want := reflect.ValueOf(call()), call()
		if got.Len() == 0 {
			t.Error(name, "is empty")
		}
		for i := range got.Len() {
			got.Index(i).SetZero()
		}
		if again := call(); !reflect.DeepEqual(again, want) {
			t.Error(name, again, want)
		}
	}
	sameRules, samePair := different()
	if !reflect.DeepEqual(r, sameRules) || !reflect.DeepEqual(x, samePair) {
		t.Error(r, x)
	}
}

// R5: nil slices and empty ones are the same.
func TestEmptyIsNil(t *testing.T) {
	r, x := different()
	for _, chain := range [][]api.Span{nil, {}} {
		r.Chain = chain
		if s, e := wave.ScaleOf(r); s != factor(1, 1, 1, 1) || e != api.OK {
			t.Error(s, e)
		}
		if s := wave.FormatRules(r); s != "0;1/1 4/1" {
			t.Error(s)
		}
	}
	for _, l := range [][]int{nil, {}} {
		if i, e := wave.CheckWitness(r, x, l); i != 0 || e != api.ErrProof {
			t.Error(i, e)
		}
		if e := wave.CheckRecord(record(1, l...)); e != api.ErrShape {
			t.Error(e)
		}
		if s := wave.FormatRecord(record(1, l...)); s != "1" {
			t.Error(s)
		}
	}
}

// R4: what is found does not depend on earlier calls.
func TestResultsAreRepeated(t *testing.T) {
	r := numbers(24)
	for range 200 {
		rule, x := randomPair(&r, 20)
		impulse := r.impulse()
		l, e := wave.WitnessOf(rule, x.Reduced, x.Full)
		f, g := wave.FiguresOf(rule, impulse)
		wave.FiguresOf(plain(3), first())
		wave.WitnessOf(plain(0), x.Full, x.Reduced)
		l2, e2 := wave.WitnessOf(rule, x.Reduced, x.Full)
		f2, g2 := wave.FiguresOf(rule, impulse)
		if !slices.Equal(l, l2) || e != e2 || f != f2 || g != g2 {
			t.Fatal(rule, x, impulse)
		}
	}
}

// wild returns a number that is often at the limit of something.
func (r *numbers) wild() int {
	return r.oneOf(least, least+1, -4097, -501, -1, 0, 1, 2, 3, 63, 64, 100, 350, 1000, 4096, 1000000, 1000000000, 1000000000000000, greatest-1, greatest)
}

// wildSpan returns a span of such numbers.
func (r *numbers) wildSpan() api.Span {
	if r.below(2) == 0 {
		return factor(1, 1, 4, 1)
	}
	return factor(r.wild(), r.wild(), r.wild(), r.wild())
}

// wildList returns so many such numbers.
func (r *numbers) wildList(count int) []int {
	l := make([]int, count)
	for i := range l {
		l[i] = r.wild()
	}
	return l
}

// R2: no function panics, whatever its arguments are.
func TestNothingPanics(t *testing.T) {
	r := numbers(25)
	for range 20000 {
		rule := rules(r.oneOf(0, 1, r.wild()), r.wildSpan())
		for range r.below(3) {
			rule.Chain = append(rule.Chain, r.wildSpan())
		}
		x := api.WavePair{Reduced: record(r.oneOf(1, r.wild()), r.wildList(r.below(5))...), Full: record(r.oneOf(1, r.wild()), r.wildList(r.below(5))...)}
		f := api.WaveFigures{At: r.wild(), Peak: span(r.wild(), r.wild()), T30: span(r.wild(), r.wild()), T90: span(r.wild(), r.wild()), Half: span(r.wild(), r.wild())}
		wave.CheckRecord(x.Reduced)
		wave.CheckRules(rule)
		wave.ScaleOf(rule)
		wave.PeakOf(rule, x.Reduced)
		wave.FiguresOf(rule, x.Full)
		wave.CheckFigures(f)
		wave.FrontOf(f, r.wild())
		wave.TailOf(f, r.wild())
		wave.VoltageOf(rule, f)
		wave.AnswerFor(f.Peak, f.T30)
		wave.FactorsOf(rule, x.Reduced, x.Full)
		wave.DifferenceOf(rule, x.Reduced, x.Full)
		wave.WitnessOf(rule, x.Reduced, x.Full)
		wave.CheckWitness(rule, x, r.wildList(r.below(4)))
		wave.RatioOf(f.T30, f.T90)
		wave.ResistanceAt(r.wild(), r.wild(), r.wild())
		wave.LossOf(r.wild(), r.wild(), f.Half)
		wave.EndOf([3]int{r.wild(), r.wild(), r.wild()}, r.wild())
		wave.FormatRecord(x.Full)
		wave.FormatRules(rule)
	}
}
