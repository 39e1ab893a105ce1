package extent_test

import (
	"bytes"
	"maps"
	"math"
	"slices"
	"testing"

	"corbel/extent"
)

// some are n bytes in a disorder that is the same each time, none of them 0.
func some(seed, n int) []byte {
	b, x := make([]byte, n), uint32(seed)*2654435761+1
	for k := range b {
		x = x*1664525 + 1013904223
		b[k] = byte(x>>24)%255 + 1
	}
	return b
}

// over does by the words of 17.1 what Overlay must do, byte by byte.
func over(old []byte, dirty map[int][]byte, e int) []byte {
	var l []byte
	for k := range 128 {
		x := byte(0)
		if len(old) == 128 {
			x = old[k]
		}
		if b := dirty[8*e+k/16]; e >= 0 && len(b) == 16 {
			x = b[k%16]
		}
		l = append(l, x)
	}
	return l
}

// overlaid checks that an Overlay is what it must be.
func overlaid(t *testing.T, what string, old []byte, dirty map[int][]byte, e int, want []byte) {
	t.Helper()
	if got := extent.Overlay(old, dirty, e); !bytes.Equal(got, want) {
		t.Errorf("17.1: Overlay of extent %d, %s: %v, not %v", e, what, got, want)
	}
}

// olds are a stripe's bytes, and some that are none, for they are too few or too many.
func olds() [][]byte {
	l := [][]byte{nil, {}, make([]byte, 128), some(1, 256)[:128]}
	for _, n := range []int{1, 15, 16, 32, 127, 128, 129, 144, 160, 255, 256, 1000} {
		l = append(l, some(n, n))
	}
	return l
}

// TestOverlayNone: without sectors it is the old bytes, where these are a stripe's, else 0 bytes.
func TestOverlayNone(t *testing.T) {
	for _, old := range olds() {
		want := make([]byte, 128)
		if len(old) == 128 {
			want = slices.Clone(old)
		}
		for e := range 34 {
			overlaid(t, "a nil map", old, nil, e, want)
			overlaid(t, "an empty map", old, map[int][]byte{}, e, want)
			overlaid(t, "sectors of others", old, map[int][]byte{8*e - 1: some(3, 16), 8*e + 8: some(4, 16)}, e, want)
		}
	}
	for n := range 300 {
		if n != 128 {
			overlaid(t, "a wrong length", some(n, n), nil, 0, make([]byte, 128))
		}
	}
}

// TestOverlayEach: each choice of an extent's sectors, beside those of its neighbours.
func TestOverlayEach(t *testing.T) {
	for _, e := range []int{0, 1, 5, 30, 31} {
		for choice := range 256 {
			dirty := map[int][]byte{8*e - 8: some(90, 16), 8*e - 1: some(91, 16), 8*e + 8: some(92, 16), 8*e + 15: some(93, 16)}
			for k := range 8 {
				if choice>>k&1 == 1 {
					dirty[8*e+k] = some(choice+k, 16)
				}
			}
			old := some(choice, 128)
			overlaid(t, "some sectors", old, dirty, e, over(old, dirty, e))
			overlaid(t, "some sectors, over none", old[:100], dirty, e, over(nil, dirty, e))
		}
	}
}

// TestOverlayByHand: the first sector and the last one of extent 1, and those beside them.
func TestOverlayByHand(t *testing.T) {
	old := bytes.Repeat([]byte{7}, 128)
	want := bytes.Repeat([]byte{7}, 128)
	dirty := map[int][]byte{}
	for sector := range 24 {
		if sector < 9 || sector > 14 {
			dirty[sector] = bytes.Repeat([]byte{byte(100 + sector)}, 16)
		}
	}
	for k := range 16 {
		want[k], want[112+k] = 108, 115
	}
	overlaid(t, "its first and its last sector", old, dirty, 1, want)
	clear(dirty[8])
	clear(want[:16])
	overlaid(t, "a sector of 0 bytes", old, dirty, 1, want)
}

// TestOverlayLength: a sector of another length is as if it were not there.
func TestOverlayLength(t *testing.T) {
	old := some(5, 128)
	for n := range 300 {
		for _, k := range []int{0, 3, 7} {
			dirty := map[int][]byte{16 + k: some(n, n), 16 + (k+1)%8: some(9, 16)}
			overlaid(t, "a sector of another length", old, dirty, 2, over(old, dirty, 2))
		}
	}
	overlaid(t, "nil sectors", old, map[int][]byte{0: nil, 7: {}}, 0, old)
	overlaid(t, "a sector with spare room", old, map[int][]byte{0: some(6, 128)[:15]}, 0, old)
}

// edges are sectors at all ends of the numbers, and around 0.
func edges() map[int][]byte {
	l := map[int][]byte{}
	for k := range 20 {
		for _, sector := range []int{k, -k, math.MaxInt - k, math.MinInt + k, 1<<62 + k, -1<<62 + k} {
			l[sector] = some(k, 16)
		}
	}
	return l
}

// TestOverlayBelow: an extent below 0 has no sectors, whatever dirty has.
func TestOverlayBelow(t *testing.T) {
	old := some(7, 128)
	for _, e := range []int{-1, -2, -8, -16, -1 << 32, -1 << 58, -1 << 59, -1 << 60, -1<<60 - 1, -1 << 61, -1 << 62, math.MinInt, math.MinInt + 1} {
		overlaid(t, "below 0", old, edges(), e, old)
		overlaid(t, "below 0, over none", nil, edges(), e, make([]byte, 128))
	}
}

// TestOverlayFar: an extent so great that its sectors have no numbers has none, and the last that has some has these.
func TestOverlayFar(t *testing.T) {
	old := some(8, 128)
	for _, e := range []int{1 << 60, 1<<60 + 1, 1<<60 + 2, 3 << 59, 1 << 61, 1<<61 + 1, 1 << 62, 3 << 61, math.MaxInt, math.MaxInt - 1} {
		overlaid(t, "too great", old, edges(), e, old)
	}
	for _, e := range []int{32, 1000, 1 << 59, 1<<60 - 2, 1<<60 - 1} {
		overlaid(t, "great", old, edges(), e, over(old, edges(), e))
	}
	for _, e := range []int{32, 1<<60 - 1} {
		last := map[int][]byte{8*e + 7: some(2, 16)}
		overlaid(t, "the last sector of a great one", old, last, e, slices.Concat(old[:112], some(2, 16)))
	}
}

// TestEmpty: none, 0 bytes alone, and each byte that is not 0 at each place.
func TestEmpty(t *testing.T) {
	if !extent.Empty(nil) || !extent.Empty([]byte{}) {
		t.Error("17.1: Empty of none: false")
	}
	for n := range 300 {
		data := make([]byte, n)
		if !extent.Empty(data) {
			t.Errorf("17.1: Empty of %d 0 bytes: false", n)
		}
		for k := range data {
			for _, x := range []byte{1, 2, 0x7f, 0x80, 0xff} {
				data[k] = x
				if extent.Empty(data) {
					t.Errorf("17.1: Empty of %d bytes, with %d at %d: true", n, x, k)
				}
			}
			data[k] = 0
		}
	}
	for x := range 256 {
		if got := extent.Empty([]byte{byte(x)}); got != (x == 0) {
			t.Errorf("17.1: Empty of byte %d: %v", x, got)
		}
	}
	if data := append(make([]byte, 20), some(1, 20)...); !extent.Empty(data[:20]) || extent.Empty(data[:21]) || extent.Empty(data[19:]) {
		t.Error("17.1: Empty by what stands beside the bytes")
	}
}

// TestEmptyOverlay: an Overlay is Empty as long as nothing is in it that is not 0.
func TestEmptyOverlay(t *testing.T) {
	if !extent.Empty(extent.Overlay(nil, nil, 0)) || !extent.Empty(extent.Overlay(some(1, 127), map[int][]byte{3: make([]byte, 16)}, 0)) {
		t.Error("17.1: Empty of an Overlay of nothing: false")
	}
	zero := map[int][]byte{}
	for sector := range 8 {
		if extent.Empty(extent.Overlay(some(1, 128), zero, 0)) || extent.Empty(extent.Overlay(nil, map[int][]byte{sector: some(1, 16)}, 0)) {
			t.Error("17.1: Empty of an Overlay of something: true")
		}
		zero[sector] = make([]byte, 16)
	}
	if !extent.Empty(extent.Overlay(some(1, 128), zero, 0)) {
		t.Error("17.1: Empty of an Overlay of 0 sectors over something: false")
	}
}

// roomy is a copy of l with spare room behind it, and all of that room.
func roomy[T any](l []T, fill T) ([]T, []T) {
	all := append(slices.Clone(l), slices.Repeat([]T{fill}, 40)...)
	return all[:len(l)], all
}

// smear puts x all over l, its spare room too.
func smear[T any](l []T, x T) {
	for k := range l[:cap(l)] {
		l[:cap(l)][k] = x
	}
}

// TestSizedApart: what was handed in to Right and Sized is as it was, spare room too, and shares nothing with what is answered.
func TestSizedApart(t *testing.T) {
	for _, entries := range []int{0, 1, 5, 31, 32, 33} {
		m, all := roomy(stripes(entries), 99)
		was := slices.Clone(all)
		for _, size := range append(sizes(), 7, -8, 264) {
			extent.Right(size, m)
			got, cut := extent.Sized(m, size)
			wantGot, wantCut := slices.Clone(got), slices.Clone(cut)
			smear(cut, -4)
			if !slices.Equal(got, wantGot) {
				t.Errorf("R2: both answers of Sized(%v, %d) share memory", m, size)
			}
			smear(got, -5)
			if !slices.Equal(all, was) {
				t.Fatalf("R2: Sized(%d entries, %d) shares with its answers, or turned what it was given: %v", entries, size, all)
			}
			got, cut = extent.Sized(m, size)
			smear(all, -6)
			if !slices.Equal(got, wantGot) || !slices.Equal(cut, wantCut) {
				t.Errorf("R2: Sized(%d entries, %d): its answers hang on what was handed in", entries, size)
			}
			copy(all, was)
		}
	}
}

// TestOverlayApart: what was handed in to Overlay and Empty is as it was, spare room too, and shares nothing with what is answered.
func TestOverlayApart(t *testing.T) {
	for _, bytesOf := range olds() {
		old, all := roomy(bytesOf, 0xee)
		was, room, dirty := slices.Clone(all), map[int][]byte{}, map[int][]byte{}
		for sector, n := range []int{16, 16, 15, 16, 17, 16, 0, 16} {
			dirty[8+sector], room[8+sector] = roomy(some(sector, n), 0xdd)
		}
		kept, keys := map[int][]byte{}, maps.Clone(dirty)
		for sector, b := range room {
			kept[sector] = slices.Clone(b)
		}
		for e := range 4 {
			extent.Empty(old)
			got := extent.Overlay(old, dirty, e)
			want := slices.Clone(got)
			smear(got, 0x55)
			if !bytes.Equal(all, was) || !maps.EqualFunc(room, kept, bytes.Equal) || !maps.EqualFunc(dirty, keys, bytes.Equal) {
				t.Fatalf("R2: Overlay(%d bytes, extent %d) shares with its answer, or turned what it was given", len(old), e)
			}
			got = extent.Overlay(old, dirty, e)
			smear(all, 0x66)
			for _, b := range room {
				smear(b, 0x77)
			}
			if !bytes.Equal(got, want) {
				t.Errorf("R2: Overlay(%d bytes, extent %d): its answer hangs on what was handed in", len(old), e)
			}
			copy(all, was)
			for sector, b := range room {
				copy(b, kept[sector])
			}
		}
	}
}

// TestSame: asked again, and in another order, all answer the same.
func TestSame(t *testing.T) {
	old, dirty := some(1, 128), map[int][]byte{}
	for sector := range 300 {
		dirty[sector*7%300] = some(sector, 16)
	}
	tell := func(n int) []int {
		size := n % 40 * 8
		e, w, _ := extent.Where(size, n)
		got, cut := extent.Sized(stripes(n%50), size)
		l := slices.Concat(got, cut, []int{e, w})
		for _, b := range extent.Overlay(old, dirty, n%40) {
			l = append(l, int(b))
		}
		return l
	}
	var told [][]int
	for n := range 320 {
		told = append(told, tell(n))
	}
	for n := 319; n >= 0; n-- {
		if l := tell(n); !slices.Equal(l, told[n]) {
			t.Errorf("R4: %d: first %v, then %v", n, told[n], l)
		}
	}
}
