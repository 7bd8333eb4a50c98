package wave_test

import (
	"math/big"
	"slices"
	"testing"

	"buchholz/api"
	"buchholz/wave"
)

// pair returns a pair of records with the step 1.
func pair(reduced, full []int) api.WavePair {
	return api.WavePair{Reduced: record(1, reduced...), Full: record(1, full...)}
}

// randomPair returns rules and a pair of valid records, of which the full one is often nearly a multiple of the reduced one.
func randomPair(r *numbers, most int) (api.WaveRules, api.WavePair) {
	rule := rules(r.oneOf(0, 1, 2), factor(1, r.from(1, 9), r.from(1, 9), 1))
	if r.below(4) == 0 {
		rule.Factors = r.factor(5)
	}
	k, size, rarely := r.oneOf(1, 2, 3, 4, -1), r.oneOf(1, 5, 9, 50), r.oneOf(1, 3, most, 1000)
	x := pair(r.samples(r.from(3, most), size), nil)
	for _, n := range x.Reduced.Samples {
		noise := 0
		if r.below(rarely) == 0 && n != 0 {
			noise = r.oneOf(1, -1, size, -size)
		}
		x.Full.Samples = append(x.Full.Samples, k*n+noise)
	}
	return rule, x
}

// isCompatible returns whether there are true samples of a pair at an index whose quotient is a factor above 0.
func isCompatible(r api.WaveRules, x api.WavePair, index int, f *big.Rat) bool {
	a, b, e := rat(x.Reduced.Samples[index]), rat(x.Full.Samples[index]), rat(r.Error)
	minus := new(big.Rat).Neg(e)
	// The least full sample that is possible: if a greater one will do, this one does.
	full := plus(b, minus)
	if other := times(f, plus(a, minus)); other.Cmp(full) > 0 {
		full = other
	}
	reduced := over(full, f)
	return full.Cmp(plus(b, e)) <= 0 && reduced.Cmp(plus(a, minus)) >= 0 && reduced.Cmp(plus(a, e)) <= 0
}

// candidates returns all factors at which those that are compatible may begin or end.
func candidates(r api.WaveRules, x api.WavePair, indexes []int) []*big.Rat {
	lo, hi := ratOf(r.Factors.Lo), ratOf(r.Factors.Hi)
	l := []*big.Rat{lo, hi}
	for _, i := range indexes {
		for _, a := range []int{x.Reduced.Samples[i] - r.Error, x.Reduced.Samples[i] + r.Error} {
			for _, b := range []int{x.Full.Samples[i] - r.Error, x.Full.Samples[i] + r.Error} {
				if a == 0 {
					continue
				}
				if f := over(rat(b), rat(a)); f.Cmp(lo) >= 0 && f.Cmp(hi) <= 0 {
					l = append(l, f)
				}
			}
		}
	}
	return l
}

// factorsBy returns the minimum and the maximum of the factors that are compatible at indexes, or nothing.
func factorsBy(r api.WaveRules, x api.WavePair, indexes []int) []*big.Rat {
	var l []*big.Rat
	for _, f := range candidates(r, x, indexes) {
		isWrong := func(index int) bool { return !isCompatible(r, x, index, f) }
		if !slices.ContainsFunc(indexes, isWrong) {
			l = append(l, f)
		}
	}
	if l == nil {
		return nil
	}
	return []*big.Rat{slices.MinFunc(l, (*big.Rat).Cmp), slices.MaxFunc(l, (*big.Rat).Cmp)}
}

// setsBy returns all sets of the numbers from 0 to n - 1, the smallest ones first, and those of a size lexicographically.
func setsBy(n int) [][]int {
	all := [][]int{nil}
	for at := 0; at < len(all); at++ {
		next := 0
		if set := all[at]; len(set) > 0 {
			next = set[len(set)-1] + 1
		}
		for i := next; i < n; i++ {
			all = append(all, append(slices.Clone(all[at]), i))
		}
	}
	return all
}

// P8.4: the third and the fourth example, and records of zeros, of other signs, and at the ends of Factors.
func TestFactorsOf(t *testing.T) {
	a := []int{0, 10, 5}
	for _, x := range []struct {
		r    api.WaveRules
		x    api.WavePair
		want api.Span
	}{
		{plain(0), pair(a, []int{0, 20, 10}), factor(2, 1, 2, 1)},
		{plain(1), pair(a, []int{0, 20, 13}), factor(2, 1, 7, 3)},
		{plain(0), pair([]int{0, 0, 0}, []int{0, 0, 0}), factor(1, 1, 4, 1)},
		{plain(100), pair([]int{0, 0, 0}, []int{0, 0, 0}), factor(1, 1, 4, 1)},
		{plain(5), pair([]int{5, -5, 3}, []int{-5, 5, 0}), factor(1, 1, 4, 1)}, // all samples may be 0
		{plain(0), pair([]int{1, -1, 0}, []int{4, -4, 0}), factor(4, 1, 4, 1)},
		{plain(0), pair([]int{1, -1, 0}, []int{1, -1, 0}), factor(1, 1, 1, 1)},
		{plain(0), pair([]int{6, -9, 0}, []int{10, -15, 0}), factor(5, 3, 5, 3)}, // in lowest terms
		{plain(1), pair([]int{-10, 10, 0}, []int{-20, 20, 0}), factor(19, 11, 7, 3)},
		{plain(1), pair([]int{-10, -10, 0}, []int{-20, -23, 0}), factor(2, 1, 7, 3)},
		{plain(1), pair([]int{1, 100, 0}, []int{2, 150, 0}), factor(149, 101, 151, 99)}, // 1 - 1 is 0, and sets no upper end
		{plain(1), pair([]int{-1, 100, 0}, []int{-2, 150, 0}), factor(149, 101, 151, 99)},
		{plain(1), pair([]int{1, 0, 0}, []int{3, 0, 0}), factor(1, 1, 4, 1)},
		{plain(1), pair([]int{1, 0, 0}, []int{4, 0, 0}), factor(3, 2, 4, 1)},
		{plain(2), pair([]int{1, 0, 0}, []int{8, 0, 0}), factor(2, 1, 4, 1)}, // the least true sample is below 0
		{plain(0), pair(a, []int{0, 40, 20}), factor(4, 1, 4, 1)},
		{rules(1, factor(2, 1, 2, 1)), pair(a, []int{0, 20, 13}), factor(2, 1, 2, 1)},
		{rules(1, factor(9, 4, 3, 1)), pair(a, []int{0, 20, 13}), factor(9, 4, 7, 3)},
		{rules(1, factor(1, 1, 9, 4)), pair(a, []int{0, 20, 13}), factor(2, 1, 9, 4)},
		{rules(100, factor(1, 1000, 1000, 1)), pair([]int{4096, 4096, 4096}, []int{4096, -4096, 0}), api.Span{}},
		{rules(100, factor(1, 1000, 1000, 1)), pair([]int{4096, 4096, 4096}, []int{200, 150, 50}), factor(25, 1049, 25, 666)},
	} {
		want := api.OK
		if x.want == (api.Span{}) {
			want = api.ErrClash
		}
		if s, e := wave.FactorsOf(x.r, x.x.Reduced, x.x.Full); s != x.want || e != want {
			t.Error(x, s, e)
		}
	}
}

// P8.4: records without a compatible factor, with their witnesses.
func TestDifferences(t *testing.T) {
	a := []int{0, 10, 5}
	for _, x := range []struct {
		r       api.WaveRules
		x       api.WavePair
		witness []int
	}{
		{plain(0), pair(a, []int{0, 20, 13}), []int{1, 2}},
		{plain(0), pair(a, []int{0, 50, 25}), []int{1}}, // the factor 5 is above 4
		{plain(0), pair(a, []int{0, 9, 4}), []int{1}},
		{plain(0), pair(a, []int{0, 20, 4}), []int{2}},  // one index proves it, a later one
		{plain(0), pair(a, []int{1, 20, 10}), []int{0}}, // 0 times a factor is not 1
		{plain(0), pair(a, []int{-1, 20, 10}), []int{0}},
		{plain(0), pair(a, []int{0, -20, -10}), []int{1}},
		{plain(0), pair([]int{-10, 0, 0}, []int{20, 0, 0}), []int{0}},
		{plain(0), pair([]int{0, 0, 10}, []int{0, 0, 0}), []int{2}},
		{plain(1), pair([]int{5, 10, 10}, []int{10, 26, 14}), []int{1, 2}}, // not the first index, whose error is greater for its size
		{plain(1), pair([]int{10, 10, 10, 10}, []int{17, 26, 17, 26}), []int{0, 1}},
		{plain(0), pair([]int{1, 1, 1, 1}, []int{3, 3, 2, 1}), []int{0, 2}},
		{plain(0), pair([]int{1, 0, 1, 1}, []int{2, 0, 2, 3}), []int{0, 3}},
		{plain(1), pair([]int{0, 0, 0}, []int{0, 6, 0}), []int{1}},  // 4 times 1 is less than 5
		{plain(1), pair([]int{1, 0, 0}, []int{-2, 0, 0}), []int{0}}, // from 0 on is above -1
		{rules(0, factor(2, 1, 2, 1)), pair(a, []int{0, 21, 11}), []int{1}},
	} {
		if s, e := wave.FactorsOf(x.r, x.x.Reduced, x.x.Full); s != (api.Span{}) || e != api.ErrClash {
			t.Error(x, s, e)
		}
		if a, e := wave.DifferenceOf(x.r, x.x.Reduced, x.x.Full); a != api.AnswerYes || e != api.OK {
			t.Error(x, a, e)
		}
		if l, e := wave.WitnessOf(x.r, x.x.Reduced, x.x.Full); !slices.Equal(l, x.witness) || e != api.OK {
			t.Error(x, l, e)
		}
		if i, e := wave.CheckWitness(x.r, x.x, x.witness); i != 0 || e != api.OK {
			t.Error(x, i, e)
		}
	}
}

// P8.4: records that do not differ for all errors.
func TestNoDifference(t *testing.T) {
	a := []int{0, 10, 5}
	for _, x := range []struct {
		r    api.WaveRules
		x    api.WavePair
		want int
	}{
		{plain(0), pair(a, []int{0, 20, 10}), api.AnswerNo},
		{plain(0), pair(a, a), api.AnswerNo},
		{plain(0), pair([]int{0, 0, 0}, []int{0, 0, 0}), api.AnswerNo},
		{plain(1), pair(a, []int{0, 20, 10}), api.AnswerMaybe},
		{plain(1), pair(a, []int{0, 20, 13}), api.AnswerMaybe},
		{plain(1), pair(a, a), api.AnswerMaybe},
		{plain(1), pair([]int{0, 0, 0}, []int{0, 5, 0}), api.AnswerMaybe}, // 4 times 1 is 5 - 1
		{plain(1), pair([]int{1, 0, 0}, []int{-1, 0, 0}), api.AnswerMaybe},
		{plain(100), pair(a, []int{0, -20, 90}), api.AnswerMaybe},
	} {
		if a, e := wave.DifferenceOf(x.r, x.x.Reduced, x.x.Full); a != x.want || e != api.OK {
			t.Error(x, a, e)
		}
		if l, e := wave.WitnessOf(x.r, x.x.Reduced, x.x.Full); len(l) != 0 || e != api.ErrNone {
			t.Error(x, l, e)
		}
		for _, witness := range setsBy(3) {
			if i, e := wave.CheckWitness(x.r, x.x, witness); i != 0 || e != api.ErrProof {
				t.Error(x, i, e)
			}
		}
	}
}

// pairFails fails the test if a pair has not this error for all functions of pairs.
func pairFails(t *testing.T, r api.WaveRules, x api.WavePair, want api.Errno) {
	t.Helper()
	if s, e := wave.FactorsOf(r, x.Reduced, x.Full); s != (api.Span{}) || e != want {
		t.Error(x, s, e)
	}
	if a, e := wave.DifferenceOf(r, x.Reduced, x.Full); a != 0 || e != want {
		t.Error(x, a, e)
	}
	if l, e := wave.WitnessOf(r, x.Reduced, x.Full); len(l) != 0 || e != want {
		t.Error(x, l, e)
	}
	for _, witness := range [][]int{nil, {0}, {0, -1}, {0, 1, 1}, {99}} {
		if i, e := wave.CheckWitness(r, x, witness); i != 0 || e != want {
			t.Error(x, witness, i, e)
		}
	}
}

// P8.4: the errors of both records, and records with other times.
func TestPairErrors(t *testing.T) {
	good := record(1, 0, 10, 5)
	for _, x := range badRecords() {
		pairFails(t, plain(0), api.WavePair{Reduced: x.x, Full: good}, x.want)
		pairFails(t, plain(0), api.WavePair{Reduced: good, Full: x.x}, x.want)
		pairFails(t, plain(1), api.WavePair{Reduced: x.x, Full: x.x}, x.want)
		pairFails(t, plain(1), api.WavePair{Reduced: x.x, Full: record(0)}, x.want)
		pairFails(t, plain(1), api.WavePair{Reduced: record(1, 1), Full: x.x}, api.ErrShape)
		pairFails(t, plain(1), api.WavePair{Reduced: record(1, 0, 9999, 0), Full: x.x}, api.ErrRange)
		pairFails(t, plain(101), api.WavePair{Reduced: x.x, Full: good}, api.ErrRange)
	}
	for _, x := range []api.WavePair{
		{Reduced: good, Full: record(2, 0, 20, 10)},
		{Reduced: record(1000000, 0, 10, 5), Full: good},
		{Reduced: good, Full: record(1, 0, 20, 10, 0)},
		{Reduced: record(1, 0, 10, 5, 0), Full: good},
		{Reduced: record(1, make([]int, 64)...), Full: record(1, make([]int, 63)...)},
		{Reduced: record(1, 0, 10, 5, 0), Full: record(2, 0, 99, 0)},
	} {
		for _, e := range []int{0, 1, 100} {
			pairFails(t, plain(e), x, api.ErrShape)
		}
	}
}

// P8.4: sets of indexes that are not accepted.
func TestCheckWitnessErrors(t *testing.T) {
	x := pair([]int{0, 10, 5, 0}, []int{0, 20, 13, 0})
	for _, w := range []struct {
		witness []int
		at      int
		want    api.Errno
	}{
		{[]int{1, 2}, 0, api.OK},
		{[]int{0, 1, 2}, 0, api.OK}, // more than are needed
		{[]int{1, 2, 3}, 0, api.OK},
		{[]int{0, 1, 2, 3}, 0, api.OK},
		{nil, 0, api.ErrProof},
		{[]int{}, 0, api.ErrProof},
		{[]int{1}, 0, api.ErrProof},
		{[]int{2}, 0, api.ErrProof},
		{[]int{0, 1, 3}, 0, api.ErrProof},
		{[]int{0, 2, 3}, 0, api.ErrProof},
		{[]int{-1}, 0, api.ErrMissing},
		{[]int{4}, 0, api.ErrMissing},
		{[]int{1, 4}, 1, api.ErrMissing},
		{[]int{1, 2, 64}, 2, api.ErrMissing},
		{[]int{1, 2, -1}, 2, api.ErrMissing}, // before the order
		{[]int{1, 2, greatest}, 2, api.ErrMissing},
		{[]int{1, 2, least}, 2, api.ErrMissing},
		{[]int{2, 1}, 1, api.ErrOrder},
		{[]int{1, 1}, 1, api.ErrOrder},
		{[]int{1, 2, 2}, 2, api.ErrOrder},
		{[]int{0, 1, 2, 0}, 3, api.ErrOrder},
		{[]int{2, 1, 9}, 1, api.ErrOrder}, // one by one
		{[]int{9, 2, 1}, 0, api.ErrMissing},
		{[]int{0, 1, 2, 3, 3}, 4, api.ErrOrder},
		{[]int{0, 1, 2, 3, 4}, 4, api.ErrMissing},
	} {
		if i, e := wave.CheckWitness(plain(0), x, w.witness); i != w.at || e != w.want {
			t.Error(w, i, e)
		}
	}
}

// P8.4: factors, answers and witnesses of all sorts of pairs, compared with the definition.
func TestPairsByDefinition(t *testing.T) {
	r := numbers(12)
	seen := map[int]int{}
	for range 1500 {
		rule, x := randomPair(&r, 5)
		sets := setsBy(len(x.Reduced.Samples))
		all := sets[len(sets)-1]
		a, e := wave.DifferenceOf(rule, x.Reduced, x.Full)
		isOK(t, e)
		s, e := wave.FactorsOf(rule, x.Reduced, x.Full)
		want := factorsBy(rule, x, all)
		switch {
		case want == nil && (e != api.ErrClash || s != (api.Span{}) || a != api.AnswerYes):
			t.Fatal(rule, x, s, e, a)
		case want != nil && (e != api.OK || !isRat(s.Lo, want[0]) || !isRat(s.Hi, want[1]) || a == api.AnswerYes || (a == api.AnswerNo) != (rule.Error == 0)):
			t.Fatal(rule, x, s, e, a)
		}
		isProof := func(set []int) bool { return factorsBy(rule, x, set) == nil }
		l, e := wave.WitnessOf(rule, x.Reduced, x.Full)
		if i := slices.IndexFunc(sets, isProof); i < 0 && (e != api.ErrNone || len(l) != 0) || i >= 0 && (e != api.OK || !slices.Equal(l, sets[i])) {
			t.Fatal(rule, x, l, e)
		}
		for _, set := range sets {
			wanted := api.ErrProof
			if isProof(set) {
				wanted = api.OK
			}
			if i, e := wave.CheckWitness(rule, x, set); i != 0 || e != wanted {
				t.Fatal(rule, x, set, e)
			}
		}
		seen[a]++
		seen[10+len(l)]++
	}
	if min(seen[api.AnswerNo], seen[api.AnswerMaybe], seen[api.AnswerYes], seen[11], seen[12]) < 50 || seen[10]+seen[11]+seen[12] != 1500 {
		t.Error(seen)
	}
}

// P8.4, P8.9: long records: the witness is the first one of its size, is accepted, and has at most two indexes.
func TestLongWitness(t *testing.T) {
	r := numbers(13)
	seen := [3]int{}
	for range 300 {
		rule, x := randomPair(&r, 64)
		l, e := wave.WitnessOf(rule, x.Reduced, x.Full)
		a, none := wave.DifferenceOf(rule, x.Reduced, x.Full)
		if none != api.OK || (a == api.AnswerYes) != (e == api.OK) || len(l) > 2 {
			t.Fatal(rule, x, l, e, a)
		}
		seen[len(l)]++
		if e != api.OK {
			continue
		}
		if i, e := wave.CheckWitness(rule, x, l); i != 0 || e != api.OK {
			t.Fatal(rule, x, l, e)
		}
		for i := range l[0] {
			for j := range len(x.Reduced.Samples) {
				set := []int{i, j}
				if i >= j || len(l) == 1 {
					set = []int{i}
				}
				if _, e := wave.CheckWitness(rule, x, set); e != api.ErrProof {
					t.Fatal(rule, x, l, set, e)
				}
			}
		}
	}
	if min(seen[0], seen[1], seen[2]) < 20 {
		t.Error(seen)
	}
}

// P8.9: what is accepted as a proof proves a difference.
func TestAcceptedProves(t *testing.T) {
	r := numbers(14)
	accepted := 0
	for range 5000 {
		rule, x := randomPair(&r, 12)
		var witness []int
		for i := range x.Reduced.Samples {
			if r.below(2) == 0 {
				witness = append(witness, i)
			}
		}
		if _, e := wave.CheckWitness(rule, x, witness); e != api.OK {
			continue
		}
		accepted++
		if a, e := wave.DifferenceOf(rule, x.Reduced, x.Full); a != api.AnswerYes || e != api.OK {
			t.Fatal(rule, x, witness, a, e)
		}
	}
	if accepted < 500 {
		t.Error(accepted)
	}
}

// changed returns samples that differ by at most an error.
func changed(r *numbers, l []int, e int) []int {
	var changed []int
	for _, n := range l {
		changed = append(changed, n+r.oneOf(-e, e, r.from(-e, e)))
	}
	return changed
}

// P8.9: a multiple of a record does not differ from it for all errors, and its factor is compatible.
func TestMultiplesDoNotDiffer(t *testing.T) {
	r := numbers(15)
	for range 5000 {
		k, e := r.from(1, 5), r.oneOf(0, 1, 7, 100)
		rule := rules(e, factor(r.from(1, k), 1, r.from(k, 9), 1))
		base := r.samples(r.from(3, 64), r.oneOf(3, 100, 799))
		var multiple []int
		for _, n := range base {
			multiple = append(multiple, k*n)
		}
		a, b := record(9, changed(&r, base, e)...), record(9, changed(&r, multiple, e)...)
		if answer, e := wave.DifferenceOf(rule, a, b); answer == api.AnswerYes || e != api.OK {
			t.Fatal(rule, a, b, answer, e)
		}
		s, failed := wave.FactorsOf(rule, a, b)
		if failed != api.OK || ratOf(s.Lo).Cmp(rat(k)) > 0 || ratOf(s.Hi).Cmp(rat(k)) < 0 {
			t.Fatal(rule, a, b, s, failed)
		}
	}
}
