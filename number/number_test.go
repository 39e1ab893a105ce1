package number_test

import (
	"bytes"
	"math"
	"math/big"
	"testing"

	"corbel/number"
)

// some are numbers around each place where one bit more is needed.
func some() []int {
	l := []int{0, 258, 0x01020304, 0x010203040506, math.MaxInt}
	for bits := range 63 {
		l = append(l, 1<<bits-1, 1<<bits, 1<<bits+1)
	}
	return l
}

func TestWritten(t *testing.T) {
	for _, c := range []struct {
		n, size int
		want    []byte
	}{
		{0, 0, nil}, {0, 1, []byte{0}}, {255, 1, []byte{255}}, {258, 2, []byte{1, 2}}, {258, 6, []byte{0, 0, 0, 0, 1, 2}},
		{1 << 40, 6, []byte{1, 0, 0, 0, 0, 0}}, {0x010203040506, 6, []byte{1, 2, 3, 4, 5, 6}}, {258, 1, []byte{2}},
		{258, 0, nil}, {5, -1, nil}, {5, math.MinInt, nil}, {-1, 3, []byte{255, 255, 255}},
	} {
		if got := number.Bytes(c.n, c.size); !bytes.Equal(got, c.want) {
			t.Errorf("Bytes(%d, %d): %v, not %v", c.n, c.size, got, c.want)
		}
	}
}

// TestThereAndBack: against numbers of the library.
func TestThereAndBack(t *testing.T) {
	for _, n := range some() {
		big := big.NewInt(int64(n))
		for size := (big.BitLen() + 7) / 8; size < 12; size++ {
			got := number.Bytes(n, size)
			if !bytes.Equal(got, big.FillBytes(make([]byte, size))) {
				t.Errorf("Bytes(%d, %d): %v", n, size, got)
			}
			if back := number.Of(got); back != n {
				t.Errorf("Of(%v): %d, not %d", got, back, n)
			}
		}
	}
	if number.Of(nil) != 0 || number.Of([]byte{9, 0, 0, 0, 0, 0, 0, 0, 7}) != 7 {
		t.Error("Of none, and of nine bytes")
	}
}

// TestKept: what is given is not turned, and what is answered is not shared (R2).
func TestKept(t *testing.T) {
	b := []byte{1, 2, 3}
	if number.Of(b[:2]) != 258 || !bytes.Equal(b, []byte{1, 2, 3}) {
		t.Errorf("R2: Of turned what was given: %v", b)
	}
	one, other := number.Bytes(258, 2), number.Bytes(258, 2)
	one[0], one[1] = 9, 9
	if number.Of(other) != 258 {
		t.Error("R2: two answers share memory")
	}
}
