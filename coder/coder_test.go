package coder_test

import (
	"bytes"
	"math"
	"slices"
	"testing"

	"corbel/api"
	"corbel/coder"
)

// double is a times 2 in the field; no call of the program's is in it.
func double(a byte) byte {
	if a >= 0x80 {
		return a<<1 ^ 0x1d
	}
	return a << 1
}

// times is a times b in the field, by doubles.
func times(a, b byte) byte {
	var sum byte
	for ; b != 0; b >>= 1 {
		if b&1 != 0 {
			sum ^= a
		}
		a = double(a)
	}
	return sum
}

// over is a by b in the field, found by trying each byte; b isn't 0.
func over(a, b byte) byte {
	for x := range 256 {
		if times(byte(x), b) == a {
			return byte(x)
		}
	}
	panic("the test itself: no quotient")
}

// twice is a, doubled so often.
func twice(a byte, often int) byte {
	for range often {
		a = double(a)
	}
	return a
}

// chunksOf are a stripe's chunks, by 5.1's own words.
func chunksOf(stripe []byte) [][]byte {
	l := make([][]byte, 6)
	for k := range 32 {
		var sum, last byte
		for part := range 4 {
			d := stripe[32*part+k]
			l[part] = append(l[part], d)
			sum ^= d
			last ^= twice(d, part)
		}
		l[4], l[5] = append(l[4], sum), append(l[5], last)
	}
	return l
}

// led is the one stripe to which four chunks lead, byte by byte: at most two parts are lost, and found by hand.
func led(chunks [][]byte) []byte {
	var lost []int
	for k := range 4 {
		if len(chunks[k]) == 0 {
			lost = append(lost, k)
		}
	}
	parts := make([][]byte, 4)
	for k := range 32 {
		for part, d := range partsAt(chunks, lost, k) {
			parts[part] = append(parts[part], d)
		}
	}
	return bytes.Join(parts, nil)
}

// partsAt are the stripe's four parts at byte k; those that are lost are told.
func partsAt(chunks [][]byte, lost []int, k int) [4]byte {
	var d [4]byte
	var sum, last byte
	for part := range 4 {
		if len(chunks[part]) != 0 {
			d[part] = chunks[part][k]
			sum ^= d[part]
			last ^= twice(d[part], part)
		}
	}
	// What the lost parts are in the last two chunks lies in what is over there.
	switch {
	case len(lost) == 1 && len(chunks[4]) != 0:
		d[lost[0]] = chunks[4][k] ^ sum
	case len(lost) == 1:
		d[lost[0]] = over(chunks[5][k]^last, twice(1, lost[0]))
	case len(lost) == 2:
		x, y := twice(1, lost[0]), twice(1, lost[1])
		s, p := chunks[4][k]^sum, chunks[5][k]^last
		d[lost[0]] = over(p^times(y, s), x^y)
		d[lost[1]] = s ^ d[lost[0]]
	}
	return d
}

// mixed is a stripe in a disorder that is the same each time.
func mixed(seed uint32) []byte { return disorder(128, seed) }

// disorder is n bytes of it.
func disorder(n int, seed uint32) []byte {
	l := make([]byte, n)
	for k := range l {
		seed = seed*1664525 + 1013904223
		l[k] = byte(seed >> 24)
	}
	return l
}

// only is a stripe of 0s, but for one byte.
func only(at int, x byte) []byte {
	l := make([]byte, 128)
	l[at] = x
	return l
}

// stripes are some of many kinds.
func stripes() [][]byte {
	l := [][]byte{make([]byte, 128), bytes.Repeat([]byte{1}, 128), bytes.Repeat([]byte{0xff}, 128)}
	rising := make([]byte, 128)
	for k := range rising {
		rising[k] = byte(2 * k)
	}
	l = append(l, rising)
	for part := range 4 {
		one := make([]byte, 128)
		copy(one[32*part:], bytes.Repeat([]byte{0x80}, 32))
		l = append(l, one)
	}
	for seed := range uint32(40) {
		l = append(l, mixed(seed))
	}
	return l
}

// alike compares two lists of chunks.
func alike(a, b [][]byte) bool { return slices.EqualFunc(a, b, bytes.Equal) }

// copied is a list of the same chunks with memory of its own.
func copied(a [][]byte) [][]byte {
	l := make([][]byte, len(a))
	for k := range a {
		l[k] = bytes.Clone(a[k])
	}
	return l
}

// left are the chunks whose bit is set; of the others every second one is nil, and every second one empty.
func left(chunks [][]byte, mask int) [][]byte {
	l := copied(chunks)
	for k := range l {
		if mask>>k&1 == 0 {
			l[k] = [][]byte{nil, {}}[(k+mask)%2]
		}
	}
	return l
}

// bits is how many chunks a mask leaves.
func bits(mask int) int {
	n := 0
	for ; mask != 0; mask >>= 1 {
		n += mask & 1
	}
	return n
}

// decodes checks that a list leads to that stripe; of a nil one, that it leads to none.
func decodes(t *testing.T, c *coder.Coder, what string, chunks [][]byte, want []byte) {
	t.Helper()
	got, ok := c.Decode(chunks)
	if ok != (want != nil) || !bytes.Equal(got, want) {
		t.Errorf("5.1: Decode of %s: %v %v, not %v", what, got, ok, want)
	}
}

// TestExample: the document's one, and what it leaves out.
func TestExample(t *testing.T) {
	c := coder.New()
	got, e := c.Encode(only(32, 1))
	want := make([][]byte, 6)
	for k := range want {
		want[k] = make([]byte, 32)
	}
	want[1][0], want[4][0], want[5][0] = 1, 1, 2
	if e != api.OK || !alike(got, want) {
		t.Errorf("5.1: %v %d, not %v", got, e, want)
	}
}

// TestEncodeWritten: one byte in each part, with the answers written out.
func TestEncodeWritten(t *testing.T) {
	c := coder.New()
	for _, x := range []struct {
		d         [4]byte
		sum, last byte
	}{
		{[4]byte{1, 0, 0, 0}, 1, 1}, {[4]byte{0, 1, 0, 0}, 1, 2}, {[4]byte{0, 0, 1, 0}, 1, 4}, {[4]byte{0, 0, 0, 1}, 1, 8},
		{[4]byte{1, 1, 1, 1}, 0, 15}, {[4]byte{1, 2, 3, 4}, 4, 0x29}, {[4]byte{0xff, 0xff, 0xff, 0xff}, 0, 0x6c},
		{[4]byte{0, 0x80, 0, 0}, 0x80, 0x1d}, {[4]byte{0, 0, 0x80, 0}, 0x80, 0x3a}, {[4]byte{0, 0, 0, 0x80}, 0x80, 0x74},
	} {
		for _, k := range []int{0, 1, 17, 31} {
			stripe := make([]byte, 128)
			for part, d := range x.d {
				stripe[32*part+k] = d
			}
			l, e := c.Encode(stripe)
			if e != api.OK || len(l) != 6 || l[4][k] != x.sum || l[5][k] != x.last {
				t.Errorf("5.1: Encode of %v: %v %d, not %#x %#x", x.d, l, e, x.sum, x.last)
			}
		}
	}
}

// TestEncode: stripes of many kinds against chunks that are reckoned otherwise.
func TestEncode(t *testing.T) {
	c := coder.New()
	for _, stripe := range stripes() {
		if got, e := c.Encode(stripe); e != api.OK || !alike(got, chunksOf(stripe)) {
			t.Errorf("5.1: Encode of %v: %v %d, not %v", stripe, got, e, chunksOf(stripe))
		}
	}
	for n := range 128 * 256 {
		stripe := only(n/256, byte(n))
		if got, e := c.Encode(stripe); e != api.OK || !alike(got, chunksOf(stripe)) {
			t.Fatalf("5.1: Encode of byte %d: %d: %v %d", n/256, byte(n), got, e)
		}
	}
}

// TestEncodeWrong: of other than 128 bytes.
func TestEncodeWrong(t *testing.T) {
	c := coder.New()
	for n := range 520 {
		got, e := c.Encode(disorder(n, 3))
		if n == 128 {
			if e != api.OK || !alike(got, chunksOf(disorder(n, 3))) {
				t.Errorf("5.1: Encode: %v %d", got, e)
			}
		} else if e != api.ErrArg || len(got) != 0 {
			t.Errorf("5.1: Encode of %d bytes: %v %d", n, got, e)
		}
	}
	if got, e := c.Encode(nil); e != api.ErrArg || len(got) != 0 {
		t.Errorf("5.1: Encode of nil: %v %d", got, e)
	}
	if got, e := c.Encode(make([]byte, 127, 200)); e != api.ErrArg || len(got) != 0 {
		t.Errorf("5.1: Encode of 127 bytes with spare room: %v %d", got, e)
	}
}

func TestRow(t *testing.T) {
	c := coder.New()
	want := [][]byte{{1, 0, 0, 0}, {0, 1, 0, 0}, {0, 0, 1, 0}, {0, 0, 0, 1}, {1, 1, 1, 1}, {1, 2, 4, 8}}
	for k, row := range want {
		if got := c.Row(k); !bytes.Equal(got, row) {
			t.Errorf("5.1: Row(%d): %v, not %v", k, got, row)
		}
	}
	for _, k := range []int{-1, -2, -6, 6, 7, 8, 256, 1 << 32, -1 << 32, math.MaxInt, math.MinInt} {
		if got := c.Row(k); len(got) != 0 {
			t.Errorf("5.1, R5: Row(%d): %v", k, got)
		}
	}
}

// TestRowTells: each chunk is the sum of the parts, multiplied by its row.
func TestRowTells(t *testing.T) {
	c := coder.New()
	stripe := mixed(11)
	l, _ := c.Encode(stripe)
	for index, chunk := range l {
		for k, got := range chunk {
			var want byte
			for part, by := range c.Row(index) {
				want ^= times(stripe[32*part+k], by)
			}
			if got != want {
				t.Errorf("5.1: chunk %d, byte %d: %d, not %d", index, k, got, want)
			}
		}
	}
}

// TestDecode: each choice of chunks, of stripes of many kinds; less than four lead nowhere.
func TestDecode(t *testing.T) {
	c := coder.New()
	for _, stripe := range stripes() {
		for mask := range 64 {
			l := left(chunksOf(stripe), mask)
			want := stripe
			if bits(mask) < 4 {
				want = nil
			}
			decodes(t, c, "some chunks", l, want)
			if c.Check(l) != (mask == 63) {
				t.Errorf("5.1: Check of the chunks %b", mask)
			}
		}
	}
}

// TestAnyFour: the theorem. Whatever four chunks hold, there is one stripe of which they are, and Decode leads to it.
func TestAnyFour(t *testing.T) {
	c := coder.New()
	n := 0
	for mask := range 64 {
		if bits(mask) != 4 {
			continue
		}
		n++
		for seed := range uint32(8) {
			l := left([][]byte{
				disorder(32, seed), disorder(32, seed+100), disorder(32, seed+200),
				disorder(32, seed+300), disorder(32, seed+400), disorder(32, seed+500),
			}, mask)
			stripe := led(l)
			for k, chunk := range chunksOf(stripe) {
				if len(l[k]) != 0 && !bytes.Equal(chunk, l[k]) {
					t.Fatalf("the test itself: %b", mask)
				}
			}
			decodes(t, c, "any four", l, stripe)
		}
		for at := range 128 {
			for _, x := range []byte{1, 2, 0x80, 0xff} {
				decodes(t, c, "a stripe of one byte", left(chunksOf(only(at, x)), mask), only(at, x))
			}
		}
	}
	if n != 15 {
		t.Errorf("the test itself: %d choices", n)
	}
}

// TestPairsLost: each two chunks, both nil or both empty, or one of each.
func TestPairsLost(t *testing.T) {
	c := coder.New()
	stripe := mixed(5)
	for a := range 6 {
		for b := range 6 {
			for _, none := range [][2][]byte{{nil, nil}, {{}, {}}, {nil, {}}, {make([]byte, 0, 32), nil}} {
				l := chunksOf(stripe)
				l[a], l[b] = none[0], none[1]
				decodes(t, c, "four or five", l, stripe)
				if c.Check(l) {
					t.Errorf("5.1: Check without %d and %d", a, b)
				}
			}
		}
	}
}

// TestFirstFour: chunks of stripes that differ, of which the first four that are there count.
func TestFirstFour(t *testing.T) {
	c := coder.New()
	for mask := range 64 {
		if bits(mask) < 4 {
			continue
		}
		for turned := range 6 {
			l := left(chunksOf(mixed(8)), mask)
			if len(l[turned]) == 0 {
				continue
			}
			l[turned] = disorder(32, 9)
			first, counted := left(l, 63), 0
			for k := range first {
				if len(first[k]) != 0 {
					counted++
				}
				if counted > 4 {
					first[k] = nil
				}
			}
			decodes(t, c, "the first four", l, led(first))
		}
	}
}

// TestDecodePlaces: other than six.
func TestDecodePlaces(t *testing.T) {
	c := coder.New()
	all := chunksOf(mixed(1))
	for n := range 6 {
		for _, l := range [][][]byte{all[:n], all[6-n:], make([][]byte, n)} {
			decodes(t, c, "too few places", l, nil)
			if c.Check(l) {
				t.Errorf("5.1: Check of %d places", n)
			}
		}
	}
	for _, more := range [][]byte{nil, {}, {1}, make([]byte, 32), all[0], all[5], make([]byte, 33)} {
		for _, l := range [][][]byte{
			append(copied(all), more), append([][]byte{more}, all...), append(copied(all), more, more, more, more, more, more),
		} {
			decodes(t, c, "too many places", l, nil)
			if c.Check(l) {
				t.Errorf("5.1: Check of %d places", len(l))
			}
		}
	}
	decodes(t, c, "nil", nil, nil)
	decodes(t, c, "six of none", make([][]byte, 6), nil)
	if c.Check(nil) || c.Check(make([][]byte, 6)) {
		t.Error("5.1: Check of none")
	}
}

// TestDecodeLengths: a chunk that has not 32 bytes, in each place, also one behind the first four.
func TestDecodeLengths(t *testing.T) {
	c := coder.New()
	for k := range 6 {
		for _, n := range []int{1, 2, 16, 31, 33, 34, 64, 128, 288} {
			for mask := range 64 {
				l := left(chunksOf(mixed(2)), mask)
				l[k] = disorder(n, 2)
				decodes(t, c, "a chunk of another length", l, nil)
				if c.Check(l) {
					t.Errorf("5.1: Check where chunk %d has %d bytes", k, n)
				}
			}
			// so long as it should be, it has room for more
			l := chunksOf(mixed(2))
			l[k] = append(make([]byte, 0, 31+n), l[k]...)[:31]
			decodes(t, c, "31 bytes with spare room", l, nil)
		}
	}
	for _, n := range []int{1, 31, 33, 64} {
		l := [][]byte{}
		for range 6 {
			l = append(l, make([]byte, n))
		}
		decodes(t, c, "six of another length", l, nil)
		if c.Check(l) {
			t.Errorf("5.1: Check of six of %d bytes", n)
		}
	}
}

func TestCheck(t *testing.T) {
	c := coder.New()
	for _, stripe := range stripes() {
		if !c.Check(chunksOf(stripe)) {
			t.Errorf("5.1: Check of the six of %v", stripe)
		}
	}
	// a part stands where another belongs
	for a := range 6 {
		for b := range a {
			l := chunksOf(mixed(4))
			l[a], l[b] = l[b], l[a]
			if c.Check(l) {
				t.Errorf("5.1: Check where %d and %d have changed places", a, b)
			}
		}
	}
	// one of another stripe
	for k := range 6 {
		l := chunksOf(mixed(4))
		l[k] = chunksOf(mixed(5))[k]
		if c.Check(l) {
			t.Errorf("5.1: Check where chunk %d is another's", k)
		}
	}
}

// TestCheckTurned: each byte of each chunk.
func TestCheckTurned(t *testing.T) {
	c := coder.New()
	l := chunksOf(mixed(6))
	for k := range 6 * 32 {
		for _, x := range []byte{1, 2, 4, 8, 0x10, 0x20, 0x40, 0x80, 0x1d, 0xff} {
			l[k/32][k%32] ^= x
			if c.Check(l) {
				t.Fatalf("5.1: Check where byte %d of chunk %d is turned by %d", k%32, k/32, x)
			}
			l[k/32][k%32] ^= x
		}
	}
	// two chunks that agree with one another about one that does not
	l[4][0], l[5][0] = l[4][0]^1, l[5][0]^1
	if c.Check(l) {
		t.Error("5.1: Check where the last two are turned alike")
	}
	l[0][0] ^= 1
	if !c.Check(l) {
		t.Error("5.1: Check where they and the first are")
	}
}

// TestDelta: against the chunks of both stripes, of each part, for each byte that it may be turned by.
func TestDelta(t *testing.T) {
	c := coder.New()
	for index := range 4 {
		for n := range uint32(300) {
			a, b := mixed(n), mixed(n)
			if n < 256 {
				b[32*index+int(n%32)] ^= byte(n)
			} else {
				copy(b[32*index:], disorder(32, n+1))
			}
			was, now := chunksOf(a), chunksOf(b)
			got, e := c.Delta(index, was[index], now[index])
			if e != api.OK || len(got) != 2 || len(got[0]) != 32 || len(got[1]) != 32 {
				t.Fatalf("5.2: Delta of part %d: %v %d", index, got, e)
			}
			for k := range 32 {
				if was[4][k]^got[0][k] != now[4][k] || was[5][k]^got[1][k] != now[5][k] {
					t.Fatalf("5.2: Delta of part %d, byte %d: %v", index, k, got)
				}
			}
			back, _ := c.Delta(index, now[index], was[index])
			if !alike(back, got) {
				t.Fatalf("5.2: Delta back, of part %d: %v, not %v", index, back, got)
			}
		}
	}
}

// TestDeltaEncode: by the calls alone. What is Added to a stripe's last two chunks leads to those of the other.
func TestDeltaEncode(t *testing.T) {
	c := coder.New()
	stripe := mixed(21)
	l, _ := c.Encode(stripe)
	for n := range uint32(12) {
		index := int(n) % 4
		now := disorder(32, n+50)
		d, e := c.Delta(index, l[index], now)
		if e != api.OK || len(d) != 2 {
			t.Fatalf("5.2: Delta of part %d: %v %d", index, d, e)
		}
		l[index] = now
		for k := range 32 {
			l[4][k] ^= d[0][k]
			l[5][k] ^= d[1][k]
		}
		copy(stripe[32*index:], now)
		if want, _ := c.Encode(stripe); !alike(l, want) || !c.Check(l) {
			t.Fatalf("5.2: behind the Delta of part %d: %v, not %v", index, l, want)
		}
	}
}

// TestDeltaNothing: of a part that is as it was, two chunks of 0s.
func TestDeltaNothing(t *testing.T) {
	c := coder.New()
	part := disorder(32, 7)
	none := [][]byte{make([]byte, 32), make([]byte, 32)}
	for index := range 4 {
		if got, e := c.Delta(index, part, part); e != api.OK || !alike(got, none) {
			t.Errorf("5.2: Delta of part %d: %v %d", index, got, e)
		}
	}
}

func TestDeltaWrong(t *testing.T) {
	c := coder.New()
	part := disorder(32, 7)
	for _, index := range []int{-1, -2, -4, 4, 5, 6, 256, 1 << 32, -1 << 32, math.MaxInt, math.MinInt} {
		if got, e := c.Delta(index, part, part); e != api.ErrArg || len(got) != 0 {
			t.Errorf("5.2: Delta of part %d: %v %d", index, got, e)
		}
	}
	for _, n := range []int{0, 1, 16, 31, 33, 64, 128, 288} {
		other := disorder(n, 7)
		for index := -1; index < 5; index++ {
			for _, x := range [][2][]byte{{other, part}, {part, other}, {other, other}, {nil, part}, {part, nil}, {nil, nil}} {
				if got, e := c.Delta(index, x[0], x[1]); e != api.ErrArg || len(got) != 0 {
					t.Errorf("5.2: Delta of part %d, of %d and %d bytes: %v %d", index, len(x[0]), len(x[1]), got, e)
				}
			}
		}
	}
	if got, e := c.Delta(0, make([]byte, 31, 64), part); e != api.ErrArg || len(got) != 0 {
		t.Errorf("5.2: Delta of 31 bytes with spare room: %v %d", got, e)
	}
}

// guarded is a with three bytes 0xa5 in its spare room.
func guarded(a []byte) []byte { return append(bytes.Clone(a), 0xa5, 0xa5, 0xa5)[:len(a)] }

// guardedAll is a list of guarded ones, with one row more in its spare room.
func guardedAll(a [][]byte) [][]byte {
	l := [][]byte{}
	for _, row := range a {
		l = append(l, guarded(row))
	}
	return append(l, []byte{0xa5})[:len(l)]
}

// kept checks that l, that guarded made of a, is as it was, its spare room too.
func kept(t *testing.T, what string, l, a []byte) {
	t.Helper()
	if !bytes.Equal(l, a) || string(l[:len(l)+3][len(l):]) != "\xa5\xa5\xa5" {
		t.Errorf("R2: %s: what was given is turned: %v, not %v", what, l[:len(l)+3], a)
	}
}

// keptAll is kept, of a list.
func keptAll(t *testing.T, what string, l, a [][]byte) {
	t.Helper()
	if len(l) != len(a) || string(l[:len(l)+1][len(l)]) != "\xa5" {
		t.Fatalf("R2: %s: the list that was given is turned", what)
	}
	for k := range l {
		kept(t, what, l[k], a[k])
	}
}

// scribble writes over a list, and over its spare room.
func scribble(a []byte) {
	a = a[:cap(a)]
	for k := range a {
		a[k] ^= 0x5a
	}
}

// scribbleAll writes over each row, and then over the list of them.
func scribbleAll(a [][]byte) {
	for _, row := range a {
		scribble(row)
	}
	clear(a[:cap(a)])
}

// apart checks that no two rows of an answer share memory: each one written to alone.
func apart(t *testing.T, what string, a [][]byte) {
	t.Helper()
	for k := range a {
		want := copied(a)
		scribble(want[k][:len(want[k]):len(want[k])])
		scribble(a[k])
		if !alike(a, want) {
			t.Fatalf("R2: %s: list %d shares memory with another one", what, k)
		}
	}
}

func TestEncodeKept(t *testing.T) {
	c := coder.New()
	was := mixed(31)
	stripe := guarded(was)
	got, _ := c.Encode(stripe)
	again, _ := c.Encode(stripe)
	kept(t, "Encode", stripe, was)
	apart(t, "Encode", again)
	scribbleAll(again)
	kept(t, "Encode, its answer written to", stripe, was)
	if !alike(got, chunksOf(was)) {
		t.Error("R2: two answers of Encode share memory")
	}
	scribble(stripe)
	if !alike(got, chunksOf(was)) {
		t.Error("R2: Encode's answer shares memory with the stripe")
	}
	if third, _ := c.Encode(was); !alike(third, chunksOf(was)) {
		t.Error("R2: the coder keeps what it was given, or answered")
	}
}

func TestDecodeKept(t *testing.T) {
	c := coder.New()
	stripe := mixed(32)
	for mask := range 64 {
		was := left(chunksOf(stripe), mask)
		l := guardedAll(was)
		got, ok := c.Decode(l)
		again, _ := c.Decode(l)
		c.Check(l)
		keptAll(t, "Decode", l, was)
		scribble(again)
		keptAll(t, "Decode, its answer written to", l, was)
		scribbleAll(l)
		if ok && !bytes.Equal(got, stripe) {
			t.Errorf("R2: the answer to the chunks %b shares memory", mask)
		}
		decodes(t, c, "all, behind it", chunksOf(stripe), stripe)
	}
}

// TestDecodeWrongKept: where there is no answer, too, nothing is turned.
func TestDecodeWrongKept(t *testing.T) {
	c := coder.New()
	was := chunksOf(mixed(33))
	was[5] = was[5][:31]
	l := guardedAll(was)
	if got, ok := c.Decode(l); ok || len(got) != 0 || c.Check(l) {
		t.Errorf("5.1: Decode: %v %v", got, ok)
	}
	keptAll(t, "Decode of a wrong one", l, was)
	short := guarded(was[5])
	if got, e := c.Delta(0, short, short); e != api.ErrArg || len(got) != 0 {
		t.Errorf("5.2: Delta: %v %d", got, e)
	}
	if got, e := c.Encode(short); e != api.ErrArg || len(got) != 0 {
		t.Errorf("5.1: Encode: %v %d", got, e)
	}
	kept(t, "Delta and Encode of a wrong one", short, was[5])
}

func TestDeltaKept(t *testing.T) {
	c := coder.New()
	a, b := mixed(34), mixed(35)
	for index := range 4 {
		wasA, wasB := a[32*index:32*index+32], b[32*index:32*index+32]
		was, now := guarded(wasA), guarded(wasB)
		got, _ := c.Delta(index, was, now)
		again, _ := c.Delta(index, was, now)
		want := copied(got)
		kept(t, "Delta's was", was, wasA)
		kept(t, "Delta's now", now, wasB)
		apart(t, "Delta", again)
		scribbleAll(again)
		kept(t, "Delta's was, its answer written to", was, wasA)
		kept(t, "Delta's now, its answer written to", now, wasB)
		scribble(was)
		scribble(now)
		if len(got) != 2 || !alike(got, want) {
			t.Errorf("R2: Delta's answer shares memory: %v, not %v", got, want)
		}
	}
}

func TestRowKept(t *testing.T) {
	c := coder.New()
	for k := range 6 {
		was := bytes.Clone(c.Row(k))
		row := c.Row(k)
		scribble(row)
		if got := c.Row(k); len(got) != 4 || !bytes.Equal(got, was) {
			t.Errorf("R2: Row(%d), its answer written to: %v, not %v", k, got, was)
		}
	}
	stripe := mixed(36)
	if got, e := c.Encode(stripe); e != api.OK || !alike(got, chunksOf(stripe)) {
		t.Error("R2: Encode, behind rows written to")
	}
	decodes(t, c, "four, behind rows written to", left(chunksOf(stripe), 0x3c), stripe)
}

// TestOneChunkTwice: the same memory in several places.
func TestOneChunkTwice(t *testing.T) {
	c := coder.New()
	zero := guarded(make([]byte, 32))
	l := [][]byte{zero, zero, zero, zero, zero, zero}
	decodes(t, c, "one chunk six times", l, make([]byte, 128))
	if !c.Check(l) {
		t.Error("5.1: Check of one chunk six times")
	}
	kept(t, "one chunk six times", zero, make([]byte, 32))
	was := disorder(40, 1)
	piece := bytes.Clone(was)
	got, e := c.Delta(1, piece[:32], piece[8:])
	want := chunksOf(make([]byte, 128))[:2]
	for k := range 32 {
		want[0][k] = was[k] ^ was[k+8]
		want[1][k] = double(was[k] ^ was[k+8])
	}
	if e != api.OK || !alike(got, want) || !bytes.Equal(piece, was) {
		t.Errorf("5.2: Delta of pieces of one list: %v %d", got, e)
	}
}

// TestCoders: coders answer alike, whatever each of them was asked.
func TestCoders(t *testing.T) {
	c, d := coder.New(), coder.New()
	stripe := mixed(37)
	for mask := range 64 {
		c.Decode(left(chunksOf(stripe), mask))
		c.Encode(stripe[:mask])
		c.Delta(mask-2, stripe[:32], stripe[mask:mask+32])
	}
	x, _ := c.Encode(stripe)
	y, _ := d.Encode(stripe)
	if c == d || !alike(x, y) || !c.Check(y) || !d.Check(x) {
		t.Error("R4, R7: two coders")
	}
}

// TestNoCoder: a nil one, and one that New did not make, have no answers, and don't panic.
func TestNoCoder(t *testing.T) {
	stripe := mixed(38)
	for _, c := range []*coder.Coder{nil, {}} {
		if got, e := c.Encode(stripe); e != api.ErrArg || len(got) != 0 {
			t.Errorf("R1: Encode: %v %d", got, e)
		}
		decodes(t, c, "all, by no coder", chunksOf(stripe), nil)
		if c.Check(chunksOf(stripe)) {
			t.Error("R1: Check")
		}
		if got, e := c.Delta(0, stripe[:32], stripe[32:64]); e != api.ErrArg || len(got) != 0 {
			t.Errorf("R1: Delta: %v %d", got, e)
		}
		for k := -1; k < 7; k++ {
			if got := c.Row(k); len(got) != 0 {
				t.Errorf("R1: Row(%d): %v", k, got)
			}
		}
		c.Decode(nil)
		c.Check(nil)
	}
}
