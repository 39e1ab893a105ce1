package mark_test

import (
	"bytes"
	"math"
	"math/big"
	"testing"

	"corbel/api"
	"corbel/mark"
)

// prime is P, written another way.
const prime = 1<<32 - 5

// sumOf is a Sum without a remainder on the way: each byte's square and 7, times 31 as often as bytes stand behind it.
func sumOf(b []byte) int {
	sum, times := big.NewInt(0), big.NewInt(1)
	for k := len(b) - 1; k >= 0; k-- {
		x := big.NewInt(int64(b[k])*int64(b[k]) + 7)
		sum.Add(sum, x.Mul(x, times))
		times.Mul(times, big.NewInt(31))
	}
	sum.Add(sum, times)
	return int(sum.Mod(sum, big.NewInt(prime)).Int64())
}

// fourBytes is a number in four bytes, the highest first.
func fourBytes(n int) []byte {
	return []byte{byte(n / (1 << 24)), byte(n / (1 << 16)), byte(n / (1 << 8)), byte(n)}
}

// summed is a block's first 156 bytes: those that are given and 0s, with their Sum behind them; there is no spare room that a length could reach into.
func summed(head []byte) []byte {
	b := make([]byte, 160)
	copy(b[:156], head)
	copy(b[156:], fourBytes(sumOf(b[:156])))
	return b
}

// headOf is what stands in a block before its 0s.
func headOf(kind, length int, body []byte) []byte {
	return append([]byte{byte(kind), byte(length / 256), byte(length)}, body...)
}

// blockOf is a block by 6.1's own words.
func blockOf(kind int, body []byte) []byte { return summed(headOf(kind, len(body), body)) }

// disorder is n bytes in a disorder that is the same each time.
func disorder(n int, seed uint32) []byte {
	l := make([]byte, n)
	for k := range l {
		seed = seed*1664525 + 1013904223
		l[k] = byte(seed >> 24)
	}
	return l
}

// bodies are some of n bytes each.
func bodies(n int) [][]byte {
	return [][]byte{make([]byte, n), bytes.Repeat([]byte{1}, n), bytes.Repeat([]byte{0xff}, n), disorder(n, 7), disorder(n, uint32(n))}
}

// ending is a body of 153 bytes: 0s, and at its end these.
func ending(end ...byte) []byte {
	return append(make([]byte, 153-len(end)), end...)
}

// few are kinds and bodies whose blocks have those Sums: the least, which four bytes could hold once more, with P added, and the greatest.
func few() []struct {
	sum, kind int
	body      []byte
} {
	return []struct {
		sum, kind int
		body      []byte
	}{
		{0, 1, ending(77, 0, 0, 0, 182, 0, 0, 60, 0, 0, 0, 73)},
		{1, 1, ending(111, 0, 0, 0, 107, 0, 0, 135, 0, 0, 0, 146)},
		{2, 1, ending(171, 0, 0, 0, 199, 0, 0, 41, 0, 0, 0, 26)},
		{3, 1, ending(35, 0, 0, 0, 88, 0, 0, 33, 0, 0, 0, 106)},
		{4, 1, ending(216, 0, 0, 0, 237, 0, 0, 18, 0, 0, 0, 226)},
		{5, 1, ending(9, 0, 0, 0, 248, 0, 0, 91, 0, 0, 0, 196)},
		{prime - 1, 2, ending(178, 0, 0, 0, 174, 0, 0, 138, 0, 0, 0, 168)},
	}
}

// seals checks that a kind and a body make that block; of a nil one, that they make none.
func seals(t *testing.T, what string, kind int, body, want []byte) {
	t.Helper()
	e := api.OK
	if want == nil {
		e = api.ErrArg
	}
	if got, is := mark.Seal(kind, body); is != e || !bytes.Equal(got, want) {
		t.Errorf("6.1: Seal of %s: %v %d, not %v %d", what, got, is, want, e)
	}
}

// opens checks that a block leads back to that kind and that body.
func opens(t *testing.T, what string, block []byte, kind int, body []byte) {
	t.Helper()
	if k, b, e := mark.Open(block); e != api.OK || k != kind || !bytes.Equal(b, body) {
		t.Errorf("6.1: Open of %s: %d %v %d, not %d %v", what, k, b, e, kind, body)
	}
}

// fails checks that a block does not open, and beside the error nothing is told.
func fails(t *testing.T, what string, block []byte, want api.Errno) {
	t.Helper()
	if kind, body, e := mark.Open(block); e != want || kind != 0 || len(body) != 0 {
		t.Errorf("6.1, R3: Open of %s: %d %v %d, not 0, none, %d", what, kind, body, e, want)
	}
}

func TestNumbers(t *testing.T) {
	if mark.Most != 153 || mark.P != prime {
		t.Errorf("6.1: Most %d, P %d", mark.Most, mark.P)
	}
}

func TestExamples(t *testing.T) {
	if n := mark.Sum(nil); n != 1 {
		t.Errorf("6.1: Sum of none: %d", n)
	}
	if n := mark.Sum([]byte{}); n != 1 {
		t.Errorf("6.1: Sum of an empty list: %d", n)
	}
	if n := mark.Sum([]byte{2}); n != 42 {
		t.Errorf("6.1: Sum of one 2: %d", n)
	}
}

// TestSumWritten: with the answers written out.
func TestSumWritten(t *testing.T) {
	for _, c := range []struct {
		b    []byte
		want int
	}{
		{[]byte{0}, 38}, {[]byte{1}, 39}, {[]byte{255}, 65063}, {[]byte{2, 0}, 1309}, {[]byte{0, 2}, 1189}, {[]byte{0, 0}, 1185},
		{make([]byte, 6), 1094587873}, {make([]byte, 7), 3867453033}, {bytes.Repeat([]byte{255}, 4), 2002868609}, {bytes.Repeat([]byte{255}, 5), 1959449837},
	} {
		if n := mark.Sum(c.b); n != c.want {
			t.Errorf("6.1: Sum of %v: %d, not %d", c.b, n, c.want)
		}
	}
}

// TestSum: each byte alone, each two, and bytes of many kinds and lengths against sums that are reckoned otherwise.
func TestSum(t *testing.T) {
	for n := range 1 << 16 {
		x, y := n>>8, n&255
		if got := mark.Sum([]byte{byte(x)}); got != 38+x*x {
			t.Fatalf("6.1: Sum of %d: %d", x, got)
		}
		if got := mark.Sum([]byte{byte(x), byte(y)}); got != 31*(38+x*x)+y*y+7 {
			t.Fatalf("6.1: Sum of %d, %d: %d", x, y, got)
		}
	}
	for n := range 400 {
		for _, b := range bodies(n) {
			if got := mark.Sum(b); got != sumOf(b) {
				t.Errorf("6.1: Sum of %v: %d, not %d", b, got, sumOf(b))
			}
		}
	}
	for _, n := range []int{1000, 4096, 8191} {
		for _, b := range bodies(n) {
			if got := mark.Sum(b); got != sumOf(b) {
				t.Errorf("6.1: Sum of %d bytes: %d, not %d", n, got, sumOf(b))
			}
		}
	}
}

// TestSumParts: a long list, by its remainders, that are told byte by byte.
func TestSumParts(t *testing.T) {
	h, b := uint64(1), disorder(1<<20, 3)
	for k, x := range b {
		h = (h*31 + uint64(x)*uint64(x) + 7) % prime
		if k%(1<<17) == 5 && mark.Sum(b[:k+1]) != int(h) {
			t.Errorf("6.1: Sum of %d bytes: %d, not %d", k+1, mark.Sum(b[:k+1]), h)
		}
	}
	if got := mark.Sum(b); got != int(h) {
		t.Errorf("6.1: Sum of %d bytes: %d, not %d", len(b), got, h)
	}
}

// TestSumSpare: what lies in the spare room is not asked.
func TestSumSpare(t *testing.T) {
	b := []byte{2, 9, 9}
	if n := mark.Sum(b[:1]); n != 42 {
		t.Errorf("6.1: Sum of one 2 with spare room: %d", n)
	}
	if n := mark.Sum(b[:0]); n != 1 {
		t.Errorf("6.1: Sum of none with spare room: %d", n)
	}
}

// TestSealWritten: the least block, and one of a short body, byte by byte.
func TestSealWritten(t *testing.T) {
	got, e := mark.Seal(3, []byte("\x01\x00\x02"))
	if e != api.OK || len(got) != 160 {
		t.Fatalf("6.1: Seal: %v %d", got, e)
	}
	for k, x := range got[:156] {
		want := byte(0)
		switch k {
		case 0, 2:
			want = 3
		case 3:
			want = 1
		case 5:
			want = 2
		}
		if x != want {
			t.Errorf("6.1: byte %d: %d, not %d", k, x, want)
		}
	}
	if !bytes.Equal(got[156:], fourBytes(sumOf(got[:156]))) {
		t.Errorf("6.1: the Sum: %v, not %d", got[156:], sumOf(got[:156]))
	}
	seals(t, "the least block", 1, nil, summed([]byte{1}))
}

// TestKinds: each kind, with the least, a middle and the longest body.
func TestKinds(t *testing.T) {
	for kind := 1; kind <= 255; kind++ {
		for _, n := range []int{0, 1, 77, 153} {
			body := disorder(n, uint32(kind))
			want := blockOf(kind, body)
			seals(t, "each kind", kind, body, want)
			opens(t, "each kind", want, kind, body)
		}
	}
}

// TestLengths: bodies of each length, and what Seal made leads back.
func TestLengths(t *testing.T) {
	for n := range 154 {
		for k, body := range bodies(n) {
			kind := 1 + (n*5+k)%255
			want := blockOf(kind, body)
			seals(t, "each length", kind, body, want)
			got, _ := mark.Seal(kind, body)
			opens(t, "what Seal made", got, kind, body)
		}
	}
}

// TestBlockInBlock: a body that is itself a block's piece, and one that looks like a Sum.
func TestBlockInBlock(t *testing.T) {
	inner := blockOf(9, disorder(20, 1))
	for _, body := range [][]byte{inner[:153], inner[7:], inner[156:]} {
		got, e := mark.Seal(9, body)
		if e != api.OK || !bytes.Equal(got, blockOf(9, body)) {
			t.Errorf("6.1: Seal of a block's piece: %v %d", got, e)
		}
		opens(t, "a block's piece", got, 9, body)
	}
}

func TestSealWrong(t *testing.T) {
	seals(t, "kind 1", 1, nil, blockOf(1, nil))
	seals(t, "kind 255", 255, nil, blockOf(255, nil))
	kinds := []int{0, -1, -2, -255, -256, 256, 257, 511, 512, 1<<32 + 1, -1<<32 + 1, math.MaxInt, math.MinInt}
	for _, kind := range kinds {
		for _, n := range []int{0, 3, 153, 154, 1000} {
			seals(t, "a kind that may not be", kind, disorder(n, 2), nil)
		}
	}
	for _, n := range []int{154, 155, 156, 157, 160, 256, 257, 306, 409, 1 << 16, 1<<16 + 3} {
		for _, kind := range []int{1, 2, 255} {
			seals(t, "a body that is too long", kind, disorder(n, 2), nil)
		}
	}
	seals(t, "spare room", 4, disorder(200, 2)[:153], blockOf(4, disorder(153, 2)))
}

// TestOpenWrongLength: other than 160 bytes, whatever else is wrong with them.
func TestOpenWrongLength(t *testing.T) {
	fails(t, "nil", nil, api.ErrForm)
	for n := range 480 {
		if n != 160 {
			fails(t, "0s", make([]byte, n), api.ErrForm)
			fails(t, "any bytes", disorder(n, 5), api.ErrForm)
		}
	}
	whole := blockOf(7, []byte("body"))
	opens(t, "the whole", whole, 7, []byte("body"))
	fails(t, "one byte less", whole[:159], api.ErrForm)
	fails(t, "one byte less, at its front", whole[1:], api.ErrForm)
	fails(t, "one byte more", append(bytes.Clone(whole), 0), api.ErrForm)
	fails(t, "one byte more, at its front", append([]byte{0}, whole...), api.ErrForm)
	fails(t, "two blocks", append(bytes.Clone(whole), whole...), api.ErrForm)
	// With a Sum that is right at their end, too.
	for _, n := range []int{4, 7, 159, 161, 316} {
		b := disorder(n-4, 5)
		fails(t, "a Sum that is right", append(b, fourBytes(sumOf(b))...), api.ErrForm)
	}
}

// TestOpenWrongMark: another Sum, before anything else that is wrong with 160 bytes.
func TestOpenWrongMark(t *testing.T) {
	fails(t, "0s", make([]byte, 160), api.ErrMark)
	fails(t, "0xff", bytes.Repeat([]byte{0xff}, 160), api.ErrMark)
	heads := [][]byte{headOf(1, 0, nil), headOf(255, 4, []byte("body")), headOf(0, 0, nil), headOf(5, 154, nil), headOf(5, 65535, nil), headOf(5, 1, []byte("ab"))}
	for _, head := range heads {
		b := summed(head)
		sum := sumOf(b[:156])
		for _, n := range []int{0, 1, sum - 1, sum + 1, sum ^ 1<<31, sum + 1<<8, 1<<32 - 1, prime} {
			fails(t, "another Sum", append(bytes.Clone(b[:156]), fourBytes(n)...), api.ErrMark)
		}
		low := []byte{b[159], b[158], b[157], b[156]}
		fails(t, "its Sum, the lowest byte first", append(bytes.Clone(b[:156]), low...), api.ErrMark)
		whole := mark.Sum(b)
		fails(t, "the Sum of all bytes", append(bytes.Clone(b[:156]), fourBytes(whole)...), api.ErrMark)
	}
	a, b := blockOf(3, []byte("one")), blockOf(3, []byte("two"))
	fails(t, "one block with another's Sum", append(bytes.Clone(a[:156]), b[156:]...), api.ErrMark)
}

// TestOpenFew: of the least Sums, those that P was added to are other ones.
func TestOpenFew(t *testing.T) {
	for _, c := range few() {
		block := blockOf(c.kind, c.body)
		if n := mark.Sum(block[:156]); n != c.sum || sumOf(block[:156]) != c.sum {
			t.Fatalf("6.1: Sum: %d, not %d", n, c.sum)
		}
		seals(t, "a block of the least or the greatest Sum", c.kind, c.body, block)
		opens(t, "a block of the least or the greatest Sum", block, c.kind, c.body)
		for _, more := range []int{prime, -prime} {
			if n := c.sum + more; n >= 0 && n < 1<<32 {
				fails(t, "the same Sum modulo P", append(bytes.Clone(block[:156]), fourBytes(n)...), api.ErrMark)
			}
		}
	}
}

// TestOpenNotSealed: the Sum is right, but Seal makes no such block.
func TestOpenNotSealed(t *testing.T) {
	for n := range 154 {
		body := disorder(n, uint32(n))
		fails(t, "kind 0", summed(headOf(0, n, body)), api.ErrForm)
		opens(t, "kind 1", summed(headOf(1, n, body)), 1, body)
	}
	for length := 154; length < 1<<16; length++ {
		// Of the higher ones those whose low byte alone could be a length, or nearly.
		if low := length % 256; length < 1024 || low < 2 || low == 153 || low == 154 || low == 255 {
			fails(t, "a length above Most", summed(headOf(1+length%255, length, disorder(length%154, 4))), api.ErrForm)
		}
	}
	for n := range 153 {
		body := disorder(n, 9)
		block := blockOf(8, body)
		for k := 3 + n; k < 156; k++ {
			for _, x := range []byte{1, 0x80, 0xff} {
				b := bytes.Clone(block[:156])
				b[k] = x
				fails(t, "a byte behind the body", summed(b), api.ErrForm)
			}
		}
	}
	fails(t, "all of it wrong", summed(headOf(0, 154, disorder(153, 1))), api.ErrForm)
}

// TestOpenAny: disorderly bytes with a right Sum open just where 6.1 says.
func TestOpenAny(t *testing.T) {
	for seed := range uint32(20000) {
		x := disorder(8, seed*2654435761)
		kind, length := int(x[5]%4), int(x[6])
		head := headOf(kind, length, disorder(int(x[7])%154, seed))
		b := summed(head)
		rest := min(3+length, 156)
		if kind > 0 && length <= 153 && bytes.Equal(b[rest:156], make([]byte, 156-rest)) {
			opens(t, "any bytes", b, kind, b[3:3+length])
		} else {
			fails(t, "any bytes", b, api.ErrForm)
		}
	}
}

// TestTheorem: each byte of a block, turned to each other value; the Sum is always another one.
func TestTheorem(t *testing.T) {
	var blocks [][]byte
	for _, n := range []int{0, 1, 2, 50, 152, 153} {
		blocks = append(blocks, blockOf(1+n, disorder(n, uint32(n))), blockOf(255-n, bytes.Repeat([]byte{0xff}, n)))
	}
	blocks = append(blocks, blockOf(128, make([]byte, 153)))
	for _, c := range few() {
		blocks = append(blocks, blockOf(c.kind, c.body))
	}
	for _, block := range blocks {
		opens(t, "a block", block, int(block[0]), block[3:3+int(block[2])])
		turned := bytes.Clone(block)
		for k, was := range block {
			for by := 1; by < 256; by++ {
				turned[k] = was ^ byte(by)
				if kind, body, e := mark.Open(turned); e != api.ErrMark || kind != 0 || len(body) != 0 {
					t.Fatalf("6.2: byte %d of %v, turned to %d: %d %v %d", k, block, turned[k], kind, body, e)
				}
			}
			turned[k] = was
		}
	}
}

// guarded is a with three bytes 0xa5 in its spare room.
func guarded(a []byte) []byte { return append(bytes.Clone(a), 0xa5, 0xa5, 0xa5)[:len(a)] }

// kept checks that l, that guarded made of a, is as it was, its spare room too.
func kept(t *testing.T, what string, l, a []byte) {
	t.Helper()
	if !bytes.Equal(l, a) || string(l[:len(l)+3][len(l):]) != "\xa5\xa5\xa5" {
		t.Errorf("R2: %s: what was given is turned: %v, not %v", what, l[:len(l)+3], a)
	}
}

// scribble writes over a list, and over its spare room.
func scribble(a []byte) {
	a = a[:cap(a)]
	for k := range a {
		a[k] ^= 0x5a
	}
}

func TestSumKept(t *testing.T) {
	for _, n := range []int{0, 1, 153, 156, 1000} {
		was := disorder(n, 6)
		b := guarded(was)
		mark.Sum(b)
		kept(t, "Sum", b, was)
	}
}

func TestSealKept(t *testing.T) {
	for _, n := range []int{0, 1, 3, 152, 153} {
		was := disorder(n, 6)
		want, body := blockOf(6, was), guarded(was)
		got, _ := mark.Seal(6, body)
		again, _ := mark.Seal(6, body)
		kept(t, "Seal", body, was)
		scribble(again)
		kept(t, "Seal, its answer written to", body, was)
		scribble(body)
		if !bytes.Equal(got, want) {
			t.Errorf("R2: Seal's answer shares memory: %v, not %v", got, want)
		}
		seals(t, "the same again", 6, was, want)
	}
	was := disorder(154, 6)
	body := guarded(was)
	seals(t, "a body that is too long", 6, body, nil)
	seals(t, "a kind that may not be", 0, body[:153], nil)
	kept(t, "Seal of wrong ones", body, was)
}

func TestOpenKept(t *testing.T) {
	for _, n := range []int{0, 1, 3, 152, 153} {
		want := disorder(n, 8)
		was := blockOf(6, want)
		block := guarded(was)
		_, got, _ := mark.Open(block)
		_, again, _ := mark.Open(block)
		kept(t, "Open", block, was)
		scribble(again)
		kept(t, "Open, its answer written to", block, was)
		scribble(block)
		if !bytes.Equal(got, want) {
			t.Errorf("R2: Open's answer shares memory: %v, not %v", got, want)
		}
		opens(t, "the same again", was, 6, want)
	}
}

// TestOpenWrongKept: where there is no answer, too, nothing is turned.
func TestOpenWrongKept(t *testing.T) {
	whole := blockOf(6, []byte("body"))
	for _, was := range [][]byte{{}, whole[:159], append(bytes.Clone(whole), 1), make([]byte, 160), summed(headOf(0, 1, nil)), summed(headOf(1, 154, nil)), summed(headOf(1, 0, []byte{1}))} {
		block := guarded(was)
		if kind, body, e := mark.Open(block); e == api.OK || kind != 0 || len(body) != 0 {
			t.Errorf("6.1: Open: %d %v %d", kind, body, e)
		}
		kept(t, "Open of a wrong one", block, was)
	}
}
