package extent_test

import (
	"math"
	"slices"
	"testing"

	"corbel/api"
	"corbel/extent"
)

// far are numbers that are no size, sector, count or stripe of any volume.
func far() []int {
	return []int{-1, -2, -7, -8, -9, -16, -256, 264, 1000, 1 << 20, 1<<32 + 8, 1 << 60, 1 << 61, 1 << 62, -1 << 60, -1 << 61, -1 << 62, math.MaxInt, math.MaxInt - 1, math.MaxInt - 7, math.MinInt, math.MinInt + 1, math.MinInt + 8}
}

// sizes are all that a volume may have, told by counting on.
func sizes() []int {
	l := []int{0}
	for l[len(l)-1] < 256 {
		l = append(l, l[len(l)-1]+8)
	}
	return l
}

// stripes is a map of so many entries, of those that there may be, in a disorder that is the same each time; some are 0.
func stripes(n int) []int {
	var l []int
	for k := range n {
		l = append(l, []int{0, 17, 39, 30, 0, 17, 18, 25, 0, 0, 38}[k*k%11])
	}
	return l
}

// TestNumbers: what the chapter's words say of those numbers that api gives.
func TestNumbers(t *testing.T) {
	if api.Sector != 16 || api.Sectors != 8 || api.Stripe != 128 || api.MaxSize != 256 || api.First != 17 || api.Stripes != 40 {
		t.Error("these tests are of up to 256 sectors of 16 bytes, 8 of them in a stripe of 128, which is 17 to 39")
	}
}

// TestExample: the chapter's example.
func TestExample(t *testing.T) {
	if e, w, ok := extent.Where(16, 9); e != 1 || w != 1 || !ok {
		t.Errorf("17.1: Where(16, 9): %d %d %v", e, w, ok)
	}
}

// TestRightSize: of all sizes those that may be are right, with just as many entries as they have extents.
func TestRightSize(t *testing.T) {
	for size := -300; size <= 600; size++ {
		extents, may := slices.BinarySearch(sizes(), size)
		for entries := range 90 {
			if got := extent.Right(size, make([]int, entries)); got != (may && entries == extents) {
				t.Errorf("17.1: Right(%d, %d entries): %v", size, entries, got)
			}
		}
	}
	for _, size := range far() {
		for _, entries := range []int{0, 1, 2, 31, 32, 33, 125, 1 << 17} {
			if extent.Right(size, make([]int, entries)) {
				t.Errorf("17.1: Right(%d, %d entries): true", size, entries)
			}
		}
	}
}

// TestRightNone: no entries are those of size 0 alone, a nil list and an empty one alike.
func TestRightNone(t *testing.T) {
	for _, size := range append(sizes(), far()...) {
		for _, m := range [][]int{nil, {}} {
			if got := extent.Right(size, m); got != (size == 0) {
				t.Errorf("17.1: Right(%d, none): %v", size, got)
			}
		}
	}
}

// TestRightEntries: at each place of each map an entry is 0 or a stripe of data.
func TestRightEntries(t *testing.T) {
	entries := far()
	for entry := -60; entry <= 300; entry++ {
		entries = append(entries, entry)
	}
	for _, size := range sizes() {
		m := stripes(size / 8)
		if !extent.Right(size, m) {
			t.Errorf("17.1: Right(%d, %v): false", size, m)
		}
		for k, was := range m {
			for _, entry := range entries {
				m[k] = entry
				if got := extent.Right(size, m); got != (entry == 0 || entry > 16 && entry < 40) {
					t.Errorf("17.1: Right(%d, %v): %v", size, m, got)
				}
			}
			m[k] = was
		}
	}
}

// TestRightByHand: each stripe of data is one, and one may stand in a map twice.
func TestRightByHand(t *testing.T) {
	for _, c := range []struct {
		size int
		m    []int
		want bool
	}{
		{8, []int{0}, true},
		{8, []int{17}, true},
		{8, []int{39}, true},
		{8, []int{1}, false},
		{8, []int{16}, false},
		{8, []int{40}, false},
		{8, []int{-17}, false},
		{16, []int{20, 20}, true},
		{16, []int{20}, false},
		{16, []int{20, 21, 22}, false},
		{16, []int{20, 16}, false},
		{15, []int{20}, false},
		{17, []int{20, 21}, false},
		{-8, nil, false},
		{-8, []int{20}, false},
	} {
		if got := extent.Right(c.size, c.m); got != c.want {
			t.Errorf("17.1: Right(%d, %v): %v", c.size, c.m, got)
		}
	}
}

// TestWhere: counting on from sector 0, each sector of a size has its place, and no other sector has one.
func TestWhere(t *testing.T) {
	for size := -20; size <= 300; size++ {
		e, w := 0, 0
		for sector := 0; sector < size; sector++ {
			if ge, gw, ok := extent.Where(size, sector); ge != e || gw != w || !ok {
				t.Errorf("17.1: Where(%d, %d): %d %d %v, not %d %d", size, sector, ge, gw, ok, e, w)
			}
			if w++; w == 8 {
				e, w = e+1, 0
			}
		}
		for k := range 40 {
			nowhere(t, size, -1-k)
			nowhere(t, size, max(size, 0)+k)
		}
	}
}

// nowhere checks that there is no such sector, and that nothing is told beside it.
func nowhere(t *testing.T, size, sector int) {
	t.Helper()
	if e, w, ok := extent.Where(size, sector); e != 0 || w != 0 || ok {
		t.Errorf("17.1, R3: Where(%d, %d): %d %d %v", size, sector, e, w, ok)
	}
}

// TestWhereFar: sectors that are far below and far above, and sizes below 0.
func TestWhereFar(t *testing.T) {
	for _, n := range far() {
		for _, size := range sizes() {
			nowhere(t, size, n)
		}
		for sector := range 20 {
			nowhere(t, min(n, 0), sector)
			nowhere(t, min(n, 0), -sector)
		}
		nowhere(t, n, n)
	}
	for _, c := range []struct{ size, sector, extent, within int }{
		{256, 255, 31, 7},
		{9, 8, 1, 0},
		{264, 263, 32, 7},
		{math.MaxInt, 17, 2, 1},
		{math.MaxInt, math.MaxInt - 1, math.MaxInt / 8, 6},
	} {
		if e, w, ok := extent.Where(c.size, c.sector); e != c.extent || w != c.within || !ok {
			t.Errorf("17.1: Where(%d, %d): %d %d %v", c.size, c.sector, e, w, ok)
		}
	}
}

// TestSpans: those are all there of which each is, by counting and by Where, and that are one or more.
func TestSpans(t *testing.T) {
	for _, size := range []int{-9, -8, -1, 0, 1, 2, 7, 8, 9, 16, 24, 40} {
		for off := -12; off < size+15; off++ {
			for n := -12; n < size+30; n++ {
				there, where := n >= 1, n >= 1
				for sector := off; sector < off+n; sector++ {
					_, _, ok := extent.Where(size, sector)
					where = where && ok
					there = there && sector >= 0 && sector < size
				}
				if got := extent.Spans(size, off, n); got != there || got != where {
					t.Errorf("17.1: Spans(%d, %d, %d): %v", size, off, n, got)
				}
			}
		}
	}
}

// TestSpansEach: of each size that may be, one sector spans where Where tells it, and as many as are left, but no more.
func TestSpansEach(t *testing.T) {
	for _, size := range sizes() {
		for off := -300; off < 600; off++ {
			_, _, ok := extent.Where(size, off)
			if got := extent.Spans(size, off, 1); got != ok {
				t.Errorf("17.1: Spans(%d, %d, 1): %v", size, off, got)
			}
			if got := extent.Spans(size, off, size-off); got != ok {
				t.Errorf("17.1: Spans(%d, %d, %d): %v", size, off, size-off, got)
			}
			if extent.Spans(size, off, size-off+1) || extent.Spans(size, off, 0) || extent.Spans(size, off, -1) {
				t.Errorf("17.1: Spans(%d, %d, one too many, or too few): true", size, off)
			}
		}
	}
}

// TestSpansFar: places and counts so far that their sum does not fit.
func TestSpansFar(t *testing.T) {
	for _, size := range sizes() {
		for _, x := range far() {
			for _, y := range append(far(), 0, 1, 8, 255, 256) {
				if extent.Spans(size, x, y) || extent.Spans(size, y, x) {
					t.Errorf("17.1: Spans(%d, %d and %d): true", size, x, y)
				}
				if extent.Spans(min(x, 0), y, 1) || extent.Spans(min(x, 0), 0, y) {
					t.Errorf("17.1: Spans(%d, %d): true", min(x, 0), y)
				}
			}
		}
	}
	for _, c := range []struct {
		size, off, n int
		want         bool
	}{
		{math.MaxInt, 0, math.MaxInt, true},
		{math.MaxInt, 1, math.MaxInt, false},
		{math.MaxInt, 1, math.MaxInt - 1, true},
		{math.MaxInt, math.MaxInt - 1, 1, true},
		{math.MaxInt, math.MaxInt - 1, 2, false},
		{math.MaxInt, math.MaxInt, 1, false},
		{math.MaxInt, math.MaxInt, math.MaxInt, false},
		{math.MinInt, math.MaxInt, 1, false},
		{math.MinInt, 1, math.MaxInt, false},
		{math.MinInt, math.MinInt, math.MaxInt, false},
		{9, 8, 1, true},
		{9, 1, 8, true},
		{9, 1, 9, false},
	} {
		if got := extent.Spans(c.size, c.off, c.n); got != c.want {
			t.Errorf("17.1: Spans(%d, %d, %d): %v", c.size, c.off, c.n, got)
		}
	}
}

// sized checks what Sized tells of m.
func sized(t *testing.T, m []int, size int, want, cut []int) {
	t.Helper()
	if got, gone := extent.Sized(m, size); !slices.Equal(got, want) || !slices.Equal(gone, cut) {
		t.Errorf("17.1: Sized(%v, %d): %v and %v, not %v and %v", m, size, got, gone, want, cut)
	}
}

// TestSizedByHand: to less, to the same, to more, to none.
func TestSizedByHand(t *testing.T) {
	m := []int{17, 0, 18, 0, 17}
	sized(t, m, 40, []int{17, 0, 18, 0, 17}, nil)
	sized(t, m, 48, []int{17, 0, 18, 0, 17, 0}, nil)
	sized(t, m, 256, append([]int{17, 0, 18, 0, 17}, make([]int, 27)...), nil)
	sized(t, m, 32, []int{17, 0, 18, 0}, []int{17})
	sized(t, m, 24, []int{17, 0, 18}, []int{17})
	sized(t, m, 16, []int{17, 0}, []int{18, 17})
	sized(t, m, 8, []int{17}, []int{18, 17})
	sized(t, m, 0, nil, []int{17, 18, 17})
	sized(t, []int{0, 0, 0}, 8, []int{0}, nil)
	sized(t, []int{0, 0, 0}, 0, nil, nil)
	sized(t, []int{20, 0, 0}, 8, []int{20}, nil)
	sized(t, []int{0, 0, 20}, 8, []int{0}, []int{20})
	for _, none := range [][]int{nil, {}, m[:0]} {
		sized(t, none, 0, nil, nil)
		sized(t, none, 8, []int{0}, nil)
		sized(t, none, 24, []int{0, 0, 0}, nil)
	}
}

// TestSized: each length of a map to each size; the wrong ones of these, and those that are far, leave nothing.
func TestSized(t *testing.T) {
	for entries := range 50 {
		m := stripes(entries)
		for size := -40; size <= 300; size++ {
			extents, may := slices.BinarySearch(sizes(), size)
			if !may {
				sized(t, m, size, nil, nil)
				continue
			}
			var want, cut []int
			for k := range extents {
				if k < entries {
					want = append(want, m[k])
				} else {
					want = append(want, 0)
				}
			}
			for k := extents; k < entries; k++ {
				if m[k] != 0 {
					cut = append(cut, m[k])
				}
			}
			sized(t, m, size, want, cut)
			if !extent.Right(size, want) {
				t.Errorf("17.1: %v is not right of %d", want, size)
			}
		}
		for _, size := range far() {
			sized(t, m, size, nil, nil)
		}
	}
}

// TestSizedWrong: entries that are no stripes are kept, or cut, like any others.
func TestSizedWrong(t *testing.T) {
	m := []int{-1, 40, 16, math.MinInt, 0, math.MaxInt, 1}
	sized(t, m, 64, append(slices.Clone(m), 0), nil)
	sized(t, m, 16, []int{-1, 40}, []int{16, math.MinInt, math.MaxInt, 1})
	long := make([]int, 5000)
	long[32], long[4999] = 17, 39
	sized(t, long, 256, make([]int, 32), []int{17, 39})
	sized(t, long, 0, nil, []int{17, 39})
}

// TestSizedThere: to a size and back what was not cut is there again.
func TestSizedThere(t *testing.T) {
	for _, from := range sizes() {
		for _, to := range sizes() {
			m := stripes(from / 8)
			there, cut := extent.Sized(m, to)
			again, _ := extent.Sized(there, from)
			kept := min(len(there), len(m))
			if !slices.Equal(again[:kept], m[:kept]) || !slices.Equal(again[kept:], make([]int, len(m)-kept)) {
				t.Errorf("17.1: %v to %d and back: %v", m, to, again)
			}
			if to >= from && len(cut) != 0 {
				t.Errorf("17.1: %v to %d: %v was cut", m, to, cut)
			}
		}
	}
}
