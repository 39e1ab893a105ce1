package field_test

import (
	"math"
	"testing"

	"corbel/field"
)

// product is a times b by 3.1's own words: a sum of a's shifts, whose remainder is taken from the top.
func product(a, b byte) byte {
	sum := 0
	for k := range 8 {
		if b&(1<<k) != 0 {
			sum ^= int(a) << k
		}
	}
	for k := 14; k >= 8; k-- {
		if sum&(1<<k) != 0 {
			sum ^= (1<<8 | 1<<4 | 1<<3 | 1<<2 | 1) << (k - 8)
		}
	}
	return byte(sum)
}

// inverse is found by trying each byte.
func inverse(a byte) (byte, bool) {
	for b := range 256 {
		if product(a, byte(b)) == 1 {
			return byte(b), true
		}
	}
	return 0, false
}

// powers are 2, n times, of each n from 0 to 254.
func powers() []byte {
	var l []byte
	x := byte(1)
	for range 255 {
		l = append(l, x)
		x = product(x, 2)
	}
	return l
}

func TestExamples(t *testing.T) {
	f := field.New()
	if x := f.Mul(0x80, 2); x != 0x1d {
		t.Errorf("3.1: Mul(0x80, 2): %#x", x)
	}
	if x := f.Exp(8); x != 0x1d {
		t.Errorf("3.1: Exp(8): %#x", x)
	}
}

// TestPairs: each two bytes, by every call that takes two.
func TestPairs(t *testing.T) {
	f := field.New()
	for n := range 1 << 16 {
		a, b := byte(n>>8), byte(n)
		if x := f.Add(a, b); x != a^b {
			t.Fatalf("3.1: Add(%d, %d): %d", a, b, x)
		}
		if x := f.Mul(a, b); x != product(a, b) {
			t.Fatalf("3.1: Mul(%d, %d): %d, not %d", a, b, x, product(a, b))
		}
	}
}

func TestDiv(t *testing.T) {
	f := field.New()
	for b := range 256 {
		inv, is := inverse(byte(b))
		for a := range 256 {
			want := byte(0)
			if is {
				want = product(byte(a), inv)
			}
			if x, ok := f.Div(byte(a), byte(b)); x != want || ok != is {
				t.Fatalf("3.1: Div(%d, %d): %d %v, not %d %v", a, b, x, ok, want, is)
			}
		}
	}
}

// TestDivEdges: 0 by another byte is 0; nothing is a byte by 0, 0 neither.
func TestDivEdges(t *testing.T) {
	f := field.New()
	for k := range 256 {
		a := byte(k)
		if x, ok := f.Div(a, 0); x != 0 || ok {
			t.Errorf("3.1: Div(%d, 0): %d %v", a, x, ok)
		}
		if a == 0 {
			continue
		}
		if x, ok := f.Div(0, a); x != 0 || !ok {
			t.Errorf("3.1: Div(0, %d): %d %v", a, x, ok)
		}
		if x, ok := f.Div(a, a); x != 1 || !ok {
			t.Errorf("3.1: Div(%d, %d): %d %v", a, a, x, ok)
		}
		if x, ok := f.Div(a, 1); x != a || !ok {
			t.Errorf("3.1: Div(%d, 1): %d %v", a, x, ok)
		}
	}
}

func TestInv(t *testing.T) {
	f := field.New()
	for a := range 256 {
		want, is := inverse(byte(a))
		if is != (a != 0) {
			t.Fatalf("the test itself: %d", a)
		}
		if x, ok := f.Inv(byte(a)); x != want || ok != is {
			t.Errorf("3.1: Inv(%d): %d %v, not %d %v", a, x, ok, want, is)
		}
	}
}

// TestLog: the least n; by Exp it leads back to the byte.
func TestLog(t *testing.T) {
	f := field.New()
	if n, ok := f.Log(0); n != 0 || ok {
		t.Errorf("3.1: Log(0): %d %v", n, ok)
	}
	seen := map[byte]bool{}
	for want, a := range powers() {
		if seen[a] || a == 0 {
			t.Fatalf("the test itself: %d", a)
		}
		seen[a] = true
		n, ok := f.Log(a)
		if n != want || !ok {
			t.Errorf("3.1: Log(%d): %d %v, not %d", a, n, ok, want)
		}
		if x := f.Exp(n); x != a {
			t.Errorf("3.1: Exp(%d): %d, not %d", n, x, a)
		}
	}
	if len(seen) != 255 {
		t.Errorf("the test itself: %d powers", len(seen))
	}
}

// TestExp: each n of some rounds, up and down.
func TestExp(t *testing.T) {
	f, l := field.New(), powers()
	for n := -5 * 255; n <= 5*255; n++ {
		want := l[(n+5*255)%255]
		for _, far := range []int{0, 255 << 20, -255 << 20, 255 << 50, -255 << 50} {
			if x := f.Exp(n + far); x != want {
				t.Fatalf("3.1: Exp(%d): %d, not %d", n+far, x, want)
			}
		}
	}
}

// TestExpEdges: with the answers written out.
func TestExpEdges(t *testing.T) {
	f := field.New()
	for _, c := range []struct {
		n    int
		want byte
	}{
		{0, 1}, {1, 2}, {7, 0x80}, {8, 0x1d}, {254, 0x8e}, {255, 1}, {256, 2}, {510, 1},
		{-1, 0x8e}, {-247, 0x1d}, {-254, 2}, {-255, 1}, {-256, 0x8e}, {-510, 1},
	} {
		if x := f.Exp(c.n); x != c.want {
			t.Errorf("3.1: Exp(%d): %#x, not %#x", c.n, x, c.want)
		}
	}
}

// TestExpEnds: the least and the greatest numbers.
func TestExpEnds(t *testing.T) {
	f, l := field.New(), powers()
	for _, n := range []int{
		math.MaxInt, math.MaxInt - 1, math.MaxInt - 254, math.MaxInt - 255,
		math.MinInt, math.MinInt + 1, math.MinInt + 254, math.MinInt + 255,
		math.MaxInt32, math.MaxInt32 + 1, math.MinInt32, math.MinInt32 - 1, math.MaxUint32, -math.MaxUint32,
	} {
		want := l[(n%255+255)%255]
		if x := f.Exp(n); x != want {
			t.Errorf("3.1: Exp(%d): %d, not %d", n, x, want)
		}
	}
	// 2^64 is 1 modulo 255, so 2^63 is 128, and both ends are 127.
	if x, y := f.Exp(math.MaxInt), f.Exp(math.MinInt); x != l[127] || y != l[127] {
		t.Errorf("3.1: Exp of the ends: %d and %d, not %d", x, y, l[127])
	}
}

// TestLaws: what holds in each field, by its calls alone.
func TestLaws(t *testing.T) {
	f := field.New()
	for n := range 1 << 16 {
		a, b := byte(n>>8), byte(n)
		if f.Mul(a, b) != f.Mul(b, a) || f.Mul(a, 1) != a || f.Mul(a, 0) != 0 || f.Add(a, 0) != a || f.Add(a, a) != 0 {
			t.Fatalf("3.1: %d and %d", a, b)
		}
		if q, ok := f.Div(a, b); ok && f.Mul(q, b) != a {
			t.Fatalf("3.1: %d by %d: %d", a, b, q)
		}
		for _, c := range []byte{2, 3, 0x1d, 0x80, 0xff} {
			if f.Mul(f.Mul(a, b), c) != f.Mul(a, f.Mul(b, c)) {
				t.Fatalf("3.1: %d times %d times %d", a, b, c)
			}
			if f.Mul(c, f.Add(a, b)) != f.Add(f.Mul(c, a), f.Mul(c, b)) {
				t.Fatalf("3.1: %d times the sum of %d and %d", c, a, b)
			}
		}
	}
}

// TestSame: fields answer alike, whatever each of them was asked.
func TestSame(t *testing.T) {
	f := field.New()
	for n := range 1 << 16 {
		f.Mul(byte(n>>8), byte(n))
		f.Div(byte(n), byte(n>>8))
		f.Exp(-n)
	}
	g := field.New()
	if f == g || *f != *g {
		t.Error("R4, R7: a field that was asked is another one")
	}
}

// TestNoField: a nil one, and one that New did not make, have no answers, and don't panic.
func TestNoField(t *testing.T) {
	for _, f := range []*field.Field{nil, {}} {
		for _, a := range []byte{0, 1, 2, 0x80, 0xff} {
			if x := f.Add(a, 6) | f.Mul(a, 6) | f.Exp(int(a)) | f.Exp(-int(a)); x != 0 {
				t.Errorf("R1: %d: %d", a, x)
			}
			if x, ok := f.Div(a, 6); x != 0 || ok {
				t.Errorf("R1: Div(%d, 6): %d %v", a, x, ok)
			}
			if x, ok := f.Inv(a); x != 0 || ok {
				t.Errorf("R1: Inv(%d): %d %v", a, x, ok)
			}
			if n, ok := f.Log(a); n != 0 || ok {
				t.Errorf("R1: Log(%d): %d %v", a, n, ok)
			}
		}
		for _, n := range []int{math.MinInt, math.MaxInt} {
			if x := f.Exp(n); x != 0 {
				t.Errorf("R1: Exp(%d): %d", n, x)
			}
		}
	}
}
