package design_test

import (
	"math/bits"
	"slices"
	"testing"

	"buchholz/api"
	"buchholz/design"
)

// P2.6: heights are roots that are rounded down.
func TestHeightOf(t *testing.T) {
	for _, x := range [][3]int{{10, 8, 6}, {10, 6, 8}, {10, 9, 4}, {10, 10, 0}, {1, 1, 0}, {2, 1, 1}, {2000, 1, 1999}, {2000, 1999, 63}, {2000, 1200, 1600}} {
		if h, e := design.HeightOf(x[0], x[1]); e != api.OK || h != x[2] {
			t.Error(x, h, e)
		}
	}
	for _, d := range []int{1, 2, 3, 7, 25, 100, 1999, 2000} {
		for w := 1; w <= d; w++ {
			h, e := design.HeightOf(d, w)
			if rest := d*d - w*w; e != api.OK || h < 0 || h*h > rest || (h+1)*(h+1) <= rest {
				t.Error(d, w, h, e)
			}
		}
	}
}

func TestHeightErrors(t *testing.T) {
	for _, x := range [][2]int{{0, 0}, {0, 1}, {-1, 1}, {api.MaxDesignDiameter + 1, 1}, {least, 1}, {greatest, greatest}, {10, 0}, {10, -1}, {10, 11}, {10, least}} {
		if h, e := design.HeightOf(x[0], x[1]); e != api.ErrRange || h != 0 {
			t.Error(x, h, e)
		}
	}
}

// areaByRows returns the area of widths row by row: each one is as wide as the widest strip that is high enough.
func areaByRows(diameter int, widths []int) int {
	area := 0
	for row := 1; row <= diameter; row++ {
		widest := 0
		for _, w := range widths {
			if row*row <= diameter*diameter-w*w {
				widest = max(widest, w)
			}
		}
		area += widest
	}
	return area
}

// randomWidths returns at most so many descending widths.
func randomWidths(r *numbers, diameter, most int) []int {
	var l []int
	for range r.below(most + 1) {
		l = append(l, 1+r.below(diameter))
	}
	slices.Sort(l)
	l = slices.Compact(l)
	slices.Reverse(l)
	return l
}

// P2.6: areas, also without widths.
func TestAreaOf(t *testing.T) {
	for _, x := range []struct {
		diameter int
		widths   []int
		want     int
	}{
		{10, []int{9, 8, 6}, 64},
		{10, []int{9, 6}, 60},
		{10, []int{8, 6}, 60},
		{10, []int{9, 8}, 52},
		{10, []int{10}, 0},
		{10, []int{10, 8}, 48},
		{10, nil, 0},
		{10, []int{}, 0},
		{2000, []int{1999}, 1999 * 63},
	} {
		if n, e := design.AreaOf(x.diameter, x.widths); e != api.OK || n != x.want {
			t.Error(x, n, e)
		}
	}
	r := numbers(8)
	for range 500 {
		d := []int{3, 20, 300, 2000}[r.below(4)]
		l := randomWidths(&r, d, api.MaxDesignWidths)
		if n, e := design.AreaOf(d, l); e != api.OK || n != areaByRows(d, l) {
			t.Error(d, l, n, e)
		}
	}
}

type badWidths struct {
	diameter int
	widths   []int
	want     api.Errno
}

// P2.6: the errors of AreaOf come before those of BestSteps.
func TestWidthErrors(t *testing.T) {
	long := []int{13, 12, 11, 10, 9, 8, 7, 6, 5, 4, 3, 2, 1}
	for _, x := range []badWidths{
		{0, long, api.ErrRange},
		{-1, nil, api.ErrRange},
		{api.MaxDesignDiameter + 1, nil, api.ErrRange},
		{greatest, []int{1, 2}, api.ErrRange},
		{100, long, api.ErrLarge},
		{100, make([]int, 13), api.ErrLarge},
		{10, []int{11}, api.ErrRange},
		{10, []int{5, 0}, api.ErrRange},
		{10, []int{5, 4, -1}, api.ErrRange},
		{10, []int{5, 11}, api.ErrRange},
		{10, []int{least}, api.ErrRange},
		{10, []int{5, 5}, api.ErrOrder},
		{10, []int{5, 6}, api.ErrOrder},
		{10, []int{6, 5, 5, 11}, api.ErrOrder},
		{10, []int{5, 11, 12}, api.ErrRange},
	} {
		if n, e := design.AreaOf(x.diameter, x.widths); e != x.want || n != 0 {
			t.Error(x, n, e)
		}
		for _, most := range []int{1, 0} {
			if l, n, e := design.BestSteps(x.diameter, x.widths, most); e != x.want || n != 0 || len(l) != 0 {
				t.Error(x, most, l, n, e)
			}
		}
	}
	for _, x := range []struct {
		widths []int
		most   int
		want   api.Errno
	}{
		{[]int{5}, 0, api.ErrRange},
		{[]int{5}, -1, api.ErrRange},
		{[]int{5}, api.MaxDesignWidths + 1, api.ErrRange},
		{[]int{5}, least, api.ErrRange},
		{nil, greatest, api.ErrRange},
		{nil, 1, api.ErrShape},
		{[]int{}, api.MaxDesignWidths, api.ErrShape},
	} {
		if l, n, e := design.BestSteps(10, x.widths, x.most); e != x.want || n != 0 || len(l) != 0 {
			t.Error(x, l, n, e)
		}
	}
	if n, e := design.AreaOf(13, long[1:]); e != api.OK || n != areaByRows(13, long[1:]) {
		t.Error(n, e)
	}
}

// stepsBySearch returns the best steps, of all sets of widths.
func stepsBySearch(diameter int, widths []int, most int) ([]int, int) {
	type steps struct{ indexes, widths []int }
	var best steps
	area := 0
	for set := range uint(1) << len(widths) {
		if bits.OnesCount(set) > most {
			continue
		}
		var s steps
		for i, w := range widths {
			if set>>i&1 == 1 {
				s.indexes, s.widths = append(s.indexes, i), append(s.widths, w)
			}
		}
		a, _ := design.AreaOf(diameter, s.widths)
		fewer, later := len(s.indexes)-len(best.indexes), slices.Compare(s.indexes, best.indexes)
		if a > area || a == area && (fewer < 0 || fewer == 0 && later < 0) {
			best, area = s, a
		}
	}
	return best.widths, area
}

// P2.6: the best steps of the chapter's examples, and of widths without an area.
func TestBestSteps(t *testing.T) {
	for _, x := range []struct {
		diameter int
		widths   []int
		most     int
		want     []int
		area     int
	}{
		{10, []int{9, 8, 6}, 2, []int{9, 6}, 60},
		{10, []int{9, 8, 6}, 3, []int{9, 8, 6}, 64},
		{10, []int{9, 8, 6}, 12, []int{9, 8, 6}, 64},
		{10, []int{9, 8, 6}, 1, []int{8}, 48},
		{10, []int{10}, 1, nil, 0},
		{1, []int{1}, 12, nil, 0},
		{10, []int{10, 8}, 2, []int{8}, 48},
	} {
		l, n, e := design.BestSteps(x.diameter, x.widths, x.most)
		if e != api.OK || n != x.area || !slices.Equal(l, x.want) {
			t.Error(x, l, n, e)
		}
	}
	r := numbers(9)
	for range 600 {
		d := []int{4, 9, 15, 300}[r.below(4)]
		widths, most := append(randomWidths(&r, d-1, 7), 0), 1+r.below(8)
		widths[len(widths)-1] = d
		slices.Sort(widths)
		slices.Reverse(widths)
		want, area := stepsBySearch(d, widths, most)
		l, n, e := design.BestSteps(d, widths, most)
		if e != api.OK || n != area || !slices.Equal(l, want) {
			t.Error(d, widths, most, l, n, e, want, area)
		}
	}
}

// P2.14: more widths, and more steps, never reduce the best area.
func TestMoreWidths(t *testing.T) {
	r := numbers(10)
	for range 200 {
		d := 2 + r.below(200)
		widths := append(randomWidths(&r, d, api.MaxDesignWidths-1), 0)
		widths = append([]int{}, widths[:len(widths)-1]...)
		if len(widths) == 0 {
			continue
		}
		before := 0
		for most := 1; most <= api.MaxDesignWidths; most++ {
			_, n, e := design.BestSteps(d, widths, most)
			if e != api.OK || n < before || n >= d*d {
				t.Error(d, widths, most, n, e)
			}
			before = n
		}
		for i := range widths {
			fewer := slices.Delete(slices.Clone(widths), i, i+1)
			if len(fewer) == 0 {
				continue
			}
			if _, n, e := design.BestSteps(d, fewer, api.MaxDesignWidths); e != api.OK || n > before {
				t.Error(d, widths, i, n, e)
			}
		}
	}
	all := make([]int, api.MaxDesignWidths)
	for i := range all {
		all[i] = 1950 - 150*i
	}
	if l, n, e := design.BestSteps(2000, all, api.MaxDesignWidths); e != api.OK || len(l) != len(all) || n != areaByRows(2000, all) {
		t.Error(l, n, e)
	}
}
