package force_test

import (
	"fmt"
	"math/big"
	"reflect"
	"slices"
	"testing"

	"buchholz/api"
	"buchholz/force"
)

// small returns a design with two taps, three shifts and two faults.
func small() api.ForceDesign {
	return api.ForceDesign{
		Inner:  []int{4, 4},
		Taps:   [][]int{{-2, -6}, {-4, -4}},
		Shifts: span(-1, 1),
		Faults: []api.ForceFault{
			fifth(),
			{Voltage: span(10, 20), Impedance: span(1, 2), Factor: frac(1, 1)},
		},
		Limits: [4]int{30000, 30000, 30000, 30000},
	}
}

// still returns a design without forces, with the shifts 2 and 3.
func still() api.ForceDesign {
	d := small()
	d.Inner, d.Taps = []int{0, 0}, [][]int{{0, 0}, {0, 0}}
	d.Shifts = span(2, 3)
	return d
}

// randomDesign returns a valid design.
func randomDesign(r *numbers) api.ForceDesign {
	size := []int{2, 10, 100}[r.below(3)]
	n := r.from(1, 12)
	d := api.ForceDesign{Inner: r.list(n, -size, size), Shifts: r.between(-3, 3)}
	for range r.from(1, 4) {
		tap := r.list(n, -size, size)
		balance(r, tap, size, -sum(d.Inner...))
		d.Taps = append(d.Taps, tap)
	}
	most := []int{3, 30, 1000}[r.below(3)]
	for range r.from(1, 4) {
		d.Faults = append(d.Faults, randomFault(r, most))
	}
	limit := []int{1000, 1000000, 100000000}[r.below(3)]
	for i := range d.Limits {
		d.Limits[i] = r.from(1, limit)
	}
	return d
}

// casesBy returns all cases in their order.
func casesBy(d api.ForceDesign) []api.ForceCase {
	var l []api.ForceCase
	shifts := d.Shifts.Hi - d.Shifts.Lo + 1
	for i := range 4 * len(d.Taps) * shifts * len(d.Faults) {
		c := api.ForceCase{Fault: i % len(d.Faults)}
		i /= len(d.Faults)
		c.Shift = d.Shifts.Lo + i%shifts
		i /= shifts
		c.Tap, c.Kind = i%len(d.Taps), i/len(d.Taps)
		l = append(l, c)
	}
	return l
}

// unitOf returns the unit force of a case.
func unitOf(d api.ForceDesign, c api.ForceCase) int {
	return unitBy(shiftedBy(windowOf(d.Inner, d.Taps[c.Tap]), c.Shift), c.Kind)
}

// loadsBy returns the loads of all cases, in their order.
func loadsBy(d api.ForceDesign) []*big.Rat {
	var l []*big.Rat
	for _, c := range casesBy(d) {
		_, hi := forcesBy(d.Faults[c.Fault], unitOf(d, c))
		l = append(l, over(hi, whole(d.Limits[c.Kind])))
	}
	return l
}

// above returns the index of the first load that is greater than another one, or -1.
func above(l []*big.Rat, than *big.Rat) int {
	return slices.IndexFunc(l, func(x *big.Rat) bool { return x.Cmp(than) > 0 })
}

// withstandsBy returns whether a design withstands.
func withstandsBy(d api.ForceDesign) int {
	seen := [3]int{}
	for _, c := range casesBy(d) {
		seen[holdsBy(d.Faults[c.Fault], unitOf(d, c), d.Limits[c.Kind])]++
	}
	switch {
	case seen[api.AnswerNo] > 0:
		return api.AnswerNo
	case seen[api.AnswerMaybe] > 0:
		return api.AnswerMaybe
	}
	return api.AnswerYes
}

type badDesign struct {
	name   string
	change func(*api.ForceDesign)
	want   api.Errno
}

// badDesigns returns how the small design is made one that is not valid.
func badDesigns() []badDesign {
	zeros := func(n int) []int { return make([]int, n) }
	l := []badDesign{
		{"nothing", func(d *api.ForceDesign) { *d = api.ForceDesign{} }, api.ErrShape},
		{"no taps", func(d *api.ForceDesign) { d.Taps = nil }, api.ErrShape},
		{"empty taps", func(d *api.ForceDesign) { d.Taps = [][]int{} }, api.ErrShape},
		{"no taps, a high winding", func(d *api.ForceDesign) { d.Taps, d.Inner = nil, zeros(13) }, api.ErrShape},
		{"five taps", func(d *api.ForceDesign) { d.Taps = slices.Repeat([][]int{{-4, -4}}, 5) }, api.ErrLarge},
		{"five taps, all wrong", func(d *api.ForceDesign) { d.Taps = make([][]int, 5) }, api.ErrLarge},
		{"a high winding", func(d *api.ForceDesign) { d.Inner, d.Taps = zeros(13), [][]int{zeros(13)} }, api.ErrLarge},
		{"a high winding, a low tap", func(d *api.ForceDesign) { d.Inner = zeros(13) }, api.ErrLarge},
		{"no levels", func(d *api.ForceDesign) { d.Inner, d.Taps = nil, [][]int{{}, nil} }, api.ErrShape},
		{"no inner levels", func(d *api.ForceDesign) { d.Inner = nil }, api.ErrShape},
		{"a low tap", func(d *api.ForceDesign) { d.Taps[1] = []int{-8} }, api.ErrShape},
		{"a high tap", func(d *api.ForceDesign) { d.Taps[1] = []int{-4, -4, 0} }, api.ErrShape},
		{"an empty tap", func(d *api.ForceDesign) { d.Taps[0] = nil }, api.ErrShape},
		{"a tap that does not balance", func(d *api.ForceDesign) { d.Taps[1][1] = -5 }, api.ErrClash},
		{"a tap that does not balance before a low one", func(d *api.ForceDesign) { d.Taps = [][]int{{0, 0}, {0}} }, api.ErrClash},
		{"great turns in a tap", func(d *api.ForceDesign) { d.Taps[1] = []int{-101, 93} }, api.ErrRange},
		{"great inner turns", func(d *api.ForceDesign) { d.Inner = []int{101, 0} }, api.ErrRange},
		{"a wrong tap before wrong shifts", func(d *api.ForceDesign) { d.Taps[1], d.Shifts = []int{0, 0}, span(9, 0) }, api.ErrClash},
		{"shifts in the wrong order", func(d *api.ForceDesign) { d.Shifts = span(1, 0) }, api.ErrOrder},
		{"shifts in the wrong order, no faults", func(d *api.ForceDesign) { d.Shifts, d.Faults = span(3, -3), nil }, api.ErrOrder},
		{"shifts that are too great and in the wrong order", func(d *api.ForceDesign) { d.Shifts = span(4, 3) }, api.ErrRange},
		{"no faults", func(d *api.ForceDesign) { d.Faults = nil }, api.ErrShape},
		{"empty faults", func(d *api.ForceDesign) { d.Faults = []api.ForceFault{} }, api.ErrShape},
		{"no faults, no limits", func(d *api.ForceDesign) { d.Faults, d.Limits = nil, [4]int{} }, api.ErrShape},
		{"five faults", func(d *api.ForceDesign) { d.Faults = slices.Repeat([]api.ForceFault{fifth()}, 5) }, api.ErrLarge},
		{"five faults, all wrong", func(d *api.ForceDesign) { d.Faults = make([]api.ForceFault, 5) }, api.ErrLarge},
		{"no limits", func(d *api.ForceDesign) { d.Limits = [4]int{} }, api.ErrRange},
	}
	for _, n := range []int{4, -4, least, greatest} {
		l = append(l,
			badDesign{"a lower shift", func(d *api.ForceDesign) { d.Shifts.Lo = n }, api.ErrRange},
			badDesign{"an upper shift", func(d *api.ForceDesign) { d.Shifts.Hi = n }, api.ErrRange},
		)
	}
	for i := range 4 {
		for _, n := range []int{0, -1, 100000001, least, greatest} {
			l = append(l, badDesign{fmt.Sprint("the limit ", i, n), func(d *api.ForceDesign) { d.Limits[i] = n }, api.ErrRange})
		}
	}
	for _, x := range badFaults() {
		for i := range 2 {
			l = append(l, badDesign{fmt.Sprint("the fault ", i, x), func(d *api.ForceDesign) { d.Faults[i], d.Limits = x.fault, [4]int{} }, x.want})
		}
	}
	return l
}

// P5.4: designs, up to the limits.
func TestCheckDesign(t *testing.T) {
	high := api.ForceDesign{
		Inner:  make([]int, 12),
		Taps:   slices.Repeat([][]int{make([]int, 12)}, 4),
		Shifts: span(-3, 3),
		Faults: slices.Repeat([]api.ForceFault{fifth()}, 4),
		Limits: [4]int{1, 100000000, 1, 100000000},
	}
	one := small()
	one.Taps, one.Faults, one.Shifts = one.Taps[:1], one.Faults[:1], span(3, 3)
	for _, d := range []api.ForceDesign{small(), still(), high, one} {
		if e := force.CheckDesign(d); e != api.OK {
			t.Error(d, e)
		}
	}
}

// P5.4, P5.5: designs that are not valid, for each function of a design.
func TestDesignErrors(t *testing.T) {
	for _, x := range badDesigns() {
		d := small()
		x.change(&d)
		if e := force.CheckDesign(d); e != x.want {
			t.Error(x.name, e)
		}
		if c, e := force.WorstOf(d); c != (api.ForceCase{}) || e != x.want {
			t.Error(x.name, c, e)
		}
		if a, e := force.Withstands(d); a != 0 || e != x.want {
			t.Error(x.name, a, e)
		}
		for _, c := range []api.ForceCase{{}, {Kind: 1, Tap: 1, Shift: 1, Fault: 1}, {Kind: -1}} {
			if w, e := force.WindowOf(d, c); !reflect.ValueOf(w).IsZero() || e != x.want {
				t.Error(x.name, c, w, e)
			}
			if c, e := force.CheckWorst(d, c); c != (api.ForceCase{}) || e != x.want {
				t.Error(x.name, c, e)
			}
		}
	}
}

// P5.4, P5.5: cases that are not those of the design: its kind first, then its tap and fault, then its shift.
func TestCaseErrors(t *testing.T) {
	of := func(kind, tap, shift, fault int) api.ForceCase {
		return api.ForceCase{Kind: kind, Tap: tap, Shift: shift, Fault: fault}
	}
	wanted := map[api.ForceCase]api.Errno{
		of(-1, -1, -2, -1): api.ErrKind,
		of(4, 2, 2, 2):     api.ErrKind,
		of(0, 2, 2, 0):     api.ErrMissing,
		of(0, 0, 2, 2):     api.ErrMissing,
	}
	for _, n := range []int{-1, 4, least, greatest} {
		wanted[of(n, 0, 0, 0)] = api.ErrKind
	}
	for _, n := range []int{-1, 2, least, greatest} {
		wanted[of(0, n, 0, 0)] = api.ErrMissing
		wanted[of(0, 0, 0, n)] = api.ErrMissing
	}
	for _, n := range []int{-2, 2, least, greatest} {
		wanted[of(3, 1, n, 1)] = api.ErrRange
	}
	for c, want := range wanted {
		if w, e := force.WindowOf(small(), c); !reflect.ValueOf(w).IsZero() || e != want {
			t.Error(c, w, e, want)
		}
		if other, e := force.CheckWorst(small(), c); other != (api.ForceCase{}) || e != want {
			t.Error(c, other, e, want)
		}
	}
	d := still()
	if w, e := force.WindowOf(d, api.ForceCase{Shift: 1}); !reflect.ValueOf(w).IsZero() || e != api.ErrRange {
		t.Error(w, e)
	}
}

// P5.4: windows of cases; shifted ones have zeros at their ends.
func TestWindowOf(t *testing.T) {
	for c, want := range map[api.ForceCase]string{
		{}:                          "4 4 ; -2 -6",
		{Tap: 1}:                    "4 4 ; -4 -4",
		{Kind: 3, Shift: 1}:         "4 4 0 ; 0 -2 -6",
		{Tap: 1, Shift: -1}:         "0 4 4 ; -4 -4 0",
		{Kind: 2, Tap: 1, Fault: 1}: "4 4 ; -4 -4",
	} {
		if w, e := force.WindowOf(small(), c); e != api.OK || force.FormatWindow(w) != want {
			t.Error(c, w, e)
		}
	}
	r := numbers(20)
	for range 300 {
		d := randomDesign(&r)
		all := casesBy(d)
		c := all[r.below(len(all))]
		if w, e := force.WindowOf(d, c); e != api.OK || !isSame(w, shiftedBy(windowOf(d.Inner, d.Taps[c.Tap]), c.Shift)) {
			t.Fatal(d, c, w, e)
		}
	}
}

// checkWorst checks the worst case of a design.
func checkWorst(t *testing.T, d api.ForceDesign, want api.ForceCase) {
	t.Helper()
	if c, e := force.WorstOf(d); c != want || e != api.OK {
		t.Error(d, c, e, want)
	}
	if c, e := force.CheckWorst(d, want); c != (api.ForceCase{}) || e != api.OK {
		t.Error(d, c, e)
	}
}

// P5.5: of equal loads the first one is the worst: also of two equal taps, and of cases without any load.
func TestFirstWorst(t *testing.T) {
	checkWorst(t, still(), api.ForceCase{Shift: 2})
	equal := small()
	equal.Taps[1] = slices.Clone(equal.Taps[0])
	equal.Faults[0] = equal.Faults[1]
	equal.Shifts = span(0, 0)
	checkWorst(t, equal, api.ForceCase{Kind: api.ForceOuterRadial})
	equal.Limits = [4]int{16, 16, 40, 60} // the unit forces
	checkWorst(t, equal, api.ForceCase{})
	if c, e := force.CheckWorst(equal, api.ForceCase{Kind: 3, Tap: 1, Fault: 1}); c != (api.ForceCase{}) || e != api.OK {
		t.Error(c, e)
	}
	equal.Limits[2] = 39
	checkWorst(t, equal, api.ForceCase{Kind: api.ForceInnerRadial})
	if c, e := force.CheckWorst(equal, api.ForceCase{Tap: 1}); c != (api.ForceCase{Kind: api.ForceInnerRadial}) || e != api.ErrProof {
		t.Error(c, e)
	}
}

// P5.5: the kinds, the taps, the shifts and the faults all matter.
func TestWorstOf(t *testing.T) {
	d := small()
	d.Taps = [][]int{{-4, -4}, {-2, -6}}
	d.Limits = [4]int{1000, 30000, 30000, 30000}
	// the second fault has the peak 5 to 20, the first one 10 to 55/4; 4 4 0 ; 0 -2 -6 has the inner thrust 16 + 40
	checkWorst(t, d, api.ForceCase{Kind: api.ForceInnerThrust, Tap: 1, Shift: 1, Fault: 1})
	d.Faults[1].Impedance.Lo = 2
	checkWorst(t, d, api.ForceCase{Kind: api.ForceInnerThrust, Tap: 1, Shift: 1, Fault: 0})
	d.Shifts.Hi = 0
	checkWorst(t, d, api.ForceCase{Kind: api.ForceInnerThrust, Tap: 0, Shift: -1, Fault: 0}) // 0 4 4 ; -4 -4 0: 16 down and up again
}

// P5.5, P5.11: the worst case, and what CheckWorst says of all cases.
func TestWorstCases(t *testing.T) {
	r := numbers(21)
	for range 150 {
		d := randomDesign(&r)
		all, loads := casesBy(d), loadsBy(d)
		most := slices.MaxFunc(loads, (*big.Rat).Cmp)
		first := slices.IndexFunc(loads, func(x *big.Rat) bool { return x.Cmp(most) == 0 })
		if c, e := force.WorstOf(d); c != all[first] || e != api.OK {
			t.Fatal(d, c, e, all[first])
		}
		for range 20 {
			i := r.below(len(all))
			want, f := api.ForceCase{}, api.OK
			if other := above(loads, loads[i]); other >= 0 {
				want, f = all[other], api.ErrProof
			}
			if c, e := force.CheckWorst(d, all[i]); c != want || e != f {
				t.Fatal(d, all[i], c, e, want)
			}
		}
		if c, e := force.CheckWorst(d, all[first]); c != (api.ForceCase{}) || e != api.OK {
			t.Fatal(d, c, e)
		}
	}
}

// P5.5: loads that are nearly equal, and whose parts are great.
func TestNearLoads(t *testing.T) {
	d := api.ForceDesign{
		Inner:  []int{100},
		Taps:   [][]int{{-100}},
		Faults: []api.ForceFault{{Voltage: span(997, 997), Impedance: span(999, 999), Factor: frac(97, 100)}},
		Limits: [4]int{1, 1, 99999999, 99999998},
	}
	checkWorst(t, d, api.ForceCase{Kind: api.ForceOuterRadial})
	if c, e := force.CheckWorst(d, api.ForceCase{Kind: api.ForceInnerRadial}); c != (api.ForceCase{Kind: api.ForceOuterRadial}) || e != api.ErrProof {
		t.Error(c, e)
	}
	d.Limits = [4]int{1, 1, 99999999, 100000000}
	checkWorst(t, d, api.ForceCase{Kind: api.ForceInnerRadial})
	d.Faults = append(d.Faults, api.ForceFault{Voltage: span(996, 996), Impedance: span(998, 998), Factor: frac(97, 100)})
	checkWorst(t, d, api.ForceCase{Kind: api.ForceInnerRadial}) // 997/999 exceeds 996/998
	slices.Reverse(d.Faults)
	checkWorst(t, d, api.ForceCase{Kind: api.ForceInnerRadial, Fault: 1})
}

// P5.5: loads that cannot be told apart in double precision: those of the inner thrust at the first fault and of the inner radial force at the second one.
func TestNearestLoads(t *testing.T) {
	at := func(voltage, impedance, num, den int) api.ForceFault {
		return api.ForceFault{Voltage: span(voltage, voltage), Impedance: span(impedance, impedance), Factor: frac(num, den)}
	}
	for _, x := range []struct {
		first, second  api.ForceFault
		thrust, radial int
		isGreater      bool
	}{
		{at(932, 902, 91, 92), at(902, 970, 93, 91), 45586930, 98538783, true},
		{at(925, 915, 87, 94), at(944, 965, 91, 96), 39240498, 96356302, true},
		{at(961, 932, 41, 44), at(910, 978, 98, 97), 22912275, 54833336, false},
		{at(926, 983, 92, 83), at(918, 991, 33, 32), 31106023, 65090269, false},
	} {
		d := small()
		d.Shifts = span(0, 0)
		d.Faults = []api.ForceFault{x.first, x.second}
		d.Limits = [4]int{x.thrust, 100000000, x.radial, 100000000}
		want := api.ForceCase{Kind: api.ForceInnerRadial}
		if x.isGreater {
			want = api.ForceCase{Kind: api.ForceInnerThrust}
		}
		if c, e := force.CheckWorst(d, api.ForceCase{Kind: api.ForceInnerRadial, Fault: 1}); c != want || e != api.ErrProof {
			t.Error(x, c, e)
		}
	}
}

// P5.5: the force of the worst case that is exactly its limit, and the lower ends of peaks.
func TestWithstands(t *testing.T) {
	d := small()
	d.Taps, d.Shifts, d.Faults = d.Taps[:1], span(0, 0), d.Faults[:1]
	d.Limits = [4]int{3025, 3025, 7563, 11344} // 16, 16, 40 and 60 times 3025/16
	for _, x := range []struct {
		kind, limit, want int
	}{
		{0, 3025, api.AnswerYes},
		{0, 3024, api.AnswerMaybe},
		{0, 1600, api.AnswerMaybe},
		{0, 1599, api.AnswerNo},
		{1, 3024, api.AnswerMaybe},
		{1, 1599, api.AnswerNo},
		{2, 7562, api.AnswerMaybe}, // against 7562 and a half
		{2, 3999, api.AnswerNo},
		{3, 11343, api.AnswerMaybe}, // against 11343 and three quarters
		{3, 5999, api.AnswerNo},
	} {
		one := d
		one.Limits[x.kind] = x.limit
		if a, e := force.Withstands(one); a != x.want || e != api.OK {
			t.Error(x, a, e)
		}
	}
	if a, e := force.Withstands(still()); a != api.AnswerYes || e != api.OK {
		t.Error(a, e)
	}
	quiet := small()
	for i := range quiet.Faults {
		quiet.Faults[i].Voltage = span(0, 0)
	}
	quiet.Limits = [4]int{1, 1, 1, 1}
	if a, e := force.Withstands(quiet); a != api.AnswerYes || e != api.OK {
		t.Error(a, e)
	}
}

// P5.5: one case that surely does not hold is enough for a no, wherever it is and whatever the other ones are.
func TestOneFails(t *testing.T) {
	d := small()
	d.Limits = [4]int{100000000, 100000000, 100000000, 100000000}
	d.Faults = append(d.Faults, fifth(), fifth())
	if a, e := force.Withstands(d); a != api.AnswerYes || e != api.OK {
		t.Error(a, e)
	}
	for i := range d.Faults {
		unsure, wrong := d, d
		unsure.Faults = slices.Clone(d.Faults)
		unsure.Faults[i] = api.ForceFault{Voltage: span(0, 1000), Impedance: span(1, 1), Factor: frac(3, 1)}
		if a, e := force.Withstands(unsure); a != api.AnswerMaybe || e != api.OK {
			t.Error(i, a, e)
		}
		wrong.Faults = slices.Clone(unsure.Faults)
		wrong.Faults[(i+1)%4] = api.ForceFault{Voltage: span(1000, 1000), Impedance: span(1, 1), Factor: frac(3, 1)}
		if a, e := force.Withstands(wrong); a != api.AnswerNo || e != api.OK {
			t.Error(i, a, e)
		}
	}
}

// P5.5, P5.11, P5.13: answers of all sorts of designs: yes if the worst case holds, and never better with smaller limits or greater voltages.
func TestDesignsWithstand(t *testing.T) {
	r := numbers(22)
	seen := [3]int{}
	for range 300 {
		d := randomDesign(&r)
		answer, e := force.Withstands(d)
		if want := withstandsBy(d); answer != want || e != api.OK {
			t.Fatal(d, answer, e, want)
		}
		seen[answer]++
		c, _ := force.WorstOf(d)
		a, e := force.HoldsAt(d.Faults[c.Fault], unitOf(d, c), d.Limits[c.Kind])
		if e != api.OK || (a == api.AnswerYes) != (answer == api.AnswerYes) {
			t.Fatal(d, c, a, answer, e)
		}
		harder := d
		harder.Faults = slices.Clone(d.Faults)
		i := r.below(4)
		harder.Limits[i] = max(harder.Limits[i]/2, 1)
		v := &harder.Faults[r.below(len(d.Faults))].Voltage
		*v = span(min(2*v.Lo, 1000), min(2*v.Hi, 1000))
		if a, e := force.Withstands(harder); a > answer || e != api.OK {
			t.Fatal(d, harder, a, answer, e)
		}
	}
	if slices.Min(seen[:]) < 20 {
		t.Error(seen)
	}
}
