package chunk_test

import (
	"bytes"
	"math"
	"slices"
	"testing"

	"corbel/api"
	"corbel/chunk"
	"corbel/mark"
	"corbel/platter"
)

// maxGen is the greatest gen that there may be.
const maxGen = 1 << 40

// data is 32 bytes in a disorder that is the same each time.
func data(seed int) []byte {
	b, x := make([]byte, 32), uint32(seed)
	for k := range b {
		x = x*1664525 + 1013904223
		b[k] = byte(x >> 24)
	}
	b[0], b[31] = byte(seed), byte(seed>>8)
	return b
}

// piece is one that is right, if its numbers are.
func piece(stripe, gen, index int) api.Piece {
	return api.Piece{Stripe: stripe, Gen: gen, Index: index, Data: data(stripe*1000 + gen*7 + index)}
}

// bodyOf is what is sealed of a piece, by 8.1's own words, whatever its numbers are.
func bodyOf(stripe, gen, index int, data []byte) []byte {
	b := []byte{byte(stripe), byte(gen >> 40), byte(gen >> 32), byte(gen >> 24), byte(gen >> 16), byte(gen >> 8), byte(gen), byte(index)}
	return append(b, data...)
}

// sealed is a body as a block of that kind.
func sealed(t *testing.T, kind int, body []byte) []byte {
	t.Helper()
	b, e := mark.Seal(kind, body)
	if e != api.OK {
		t.Fatalf("Seal of %v as %d: %d", body, kind, e)
	}
	return b
}

// laid is the block of a piece.
func laid(t *testing.T, p api.Piece) []byte {
	t.Helper()
	return sealed(t, 1, bodyOf(p.Stripe, p.Gen, p.Index, p.Data))
}

// same is chunk.Same by its fields.
func same(a, b api.Piece) bool {
	return a.Stripe == b.Stripe && a.Gen == b.Gen && a.Index == b.Index && string(a.Data) == string(b.Data)
}

// rights are pieces that are right, those at each edge among them.
func rights() []api.Piece {
	var l []api.Piece
	for _, stripe := range []int{0, 1, 7, 38, 39} {
		for _, gen := range []int{1, 2, 255, 256, 258, 65535, 1 << 16, 1<<24 + 3, 1<<32 - 1, 1 << 32, 0x0102030405, maxGen - 1, maxGen} {
			for index := range 6 {
				l = append(l, piece(stripe, gen, index))
			}
		}
	}
	for _, fill := range []byte{0, 1, 0x80, 0xff} {
		l = append(l, api.Piece{Stripe: 3, Gen: 9, Index: 4, Data: bytes.Repeat([]byte{fill}, 32)})
	}
	return l
}

// wrongs are pieces of which one thing, or all, may not be.
func wrongs() []api.Piece {
	l := []api.Piece{{}, {Stripe: 40, Gen: 0, Index: 6}, {Stripe: 1, Gen: 1, Index: 1}}
	for _, n := range []int{-1, -2, -40, 40, 41, 47, 48, 79, 80, 255, 256, 1<<32 + 1, -1 << 32, math.MaxInt, math.MinInt} {
		l = append(l, piece(n, 1, 0))
	}
	for _, n := range []int{0, -1, -maxGen, maxGen + 1, maxGen + 2, 2 * maxGen, 1<<48 - 1, 1 << 48, 1<<48 + 1, math.MaxInt, math.MinInt, math.MinInt + 1} {
		l = append(l, piece(0, n, 0))
	}
	for _, n := range []int{-1, -6, 6, 7, 8, 255, 256, 257, 1 << 32, math.MaxInt, math.MinInt} {
		l = append(l, piece(0, 1, n))
	}
	for _, n := range []int{0, 1, 31, 33, 64, 128, 145, 146, 160, 288} {
		p := piece(39, maxGen, 5)
		p.Data = bytes.Repeat([]byte{7}, n)
		l = append(l, p)
	}
	spare := piece(39, maxGen, 5)
	spare.Data = spare.Data[:31]
	return append(l, spare)
}

// reads checks that a block leads back to that piece.
func reads(t *testing.T, what string, block []byte, want api.Piece) {
	t.Helper()
	if got, ok := chunk.Read(block); !ok || !same(got, want) {
		t.Errorf("8.1: Read of %s: %v %v, not %v", what, got, ok, want)
	}
}

// fails checks that a block is no piece, and beside the false nothing is told.
func fails(t *testing.T, what string, block []byte) {
	t.Helper()
	if p, ok := chunk.Read(block); ok || !same(p, api.Piece{}) {
		t.Errorf("8.1, R3: Read of %s, %v: %v %v", what, block, p, ok)
	}
}

func TestRight(t *testing.T) {
	for _, p := range rights() {
		if !chunk.Right(p) {
			t.Errorf("8.1: Right of %v: false", p)
		}
	}
	for _, p := range wrongs() {
		if chunk.Right(p) {
			t.Errorf("8.1: Right of %v: true", p)
		}
	}
	for stripe := -50; stripe < 300; stripe++ {
		if got := chunk.Right(piece(stripe, 5, 5)); got != (stripe >= 0 && stripe < 40) {
			t.Errorf("8.1: Right of stripe %d: %v", stripe, got)
		}
	}
	for index := -50; index < 300; index++ {
		if got := chunk.Right(piece(5, 5, index)); got != (index >= 0 && index < 6) {
			t.Errorf("8.1: Right of index %d: %v", index, got)
		}
	}
	for n := range 300 {
		p := piece(5, 5, 5)
		p.Data = bytes.Repeat([]byte{1}, n)
		if got := chunk.Right(p); got != (n == 32) {
			t.Errorf("8.1: Right of %d bytes: %v", n, got)
		}
	}
}

// TestLayWritten: one block, byte by byte.
func TestLayWritten(t *testing.T) {
	p := api.Piece{Stripe: 39, Gen: 0x0102030405, Index: 3, Data: data(77)}
	got, e := chunk.Lay(p)
	if e != api.OK || len(got) != 160 {
		t.Fatalf("8.1: Lay: %v %d", got, e)
	}
	want := append([]byte{1, 0, 40, 39, 0, 1, 2, 3, 4, 5, 3}, p.Data...)
	want = append(want, make([]byte, 156-len(want))...)
	if !bytes.Equal(got[:156], want) {
		t.Errorf("8.1: Lay: %v, not %v", got[:156], want)
	}
	sum := mark.Sum(want)
	if !bytes.Equal(got[156:], []byte{byte(sum >> 24), byte(sum >> 16), byte(sum >> 8), byte(sum)}) {
		t.Errorf("8.1: Lay's Sum: %v, not %x", got[156:], sum)
	}
}

// TestThereAndBack: each piece's block is the one that mark Seals, and leads back.
func TestThereAndBack(t *testing.T) {
	all := rights()
	for stripe := range 40 {
		all = append(all, piece(stripe, stripe+1, stripe%6))
	}
	for bit := range 41 {
		all = append(all, piece(bit%40, 1<<bit, bit%6))
	}
	for _, p := range all {
		got, e := chunk.Lay(p)
		if e != api.OK || !bytes.Equal(got, laid(t, p)) {
			t.Errorf("8.1: Lay of %v: %v %d, not %v", p, got, e, laid(t, p))
		}
		reads(t, "what Lay made", got, p)
		reads(t, "what mark sealed", laid(t, p), p)
	}
}

func TestLayWrong(t *testing.T) {
	for _, p := range wrongs() {
		if b, e := chunk.Lay(p); e != api.ErrArg || len(b) != 0 {
			t.Errorf("8.1, R3: Lay of %v: %v %d", p, b, e)
		}
	}
}

// TestReadTurned: a block of which one byte was turned to each other value.
func TestReadTurned(t *testing.T) {
	for _, p := range []api.Piece{piece(0, 1, 0), piece(39, maxGen, 5), piece(20, 258, 2)} {
		block := laid(t, p)
		reads(t, "the whole", block, p)
		for k := range block {
			for by := 1; by < 256; by++ {
				turned := bytes.Clone(block)
				turned[k] ^= byte(by)
				if got, ok := chunk.Read(turned); ok || !same(got, api.Piece{}) {
					t.Fatalf("8.1: Read with byte %d turned by %d: %v %v", k, by, got, ok)
				}
			}
		}
	}
}

// TestReadBytes: what is not a block.
func TestReadBytes(t *testing.T) {
	whole := laid(t, piece(5, 6, 1))
	fails(t, "no bytes", nil)
	fails(t, "an empty list", []byte{})
	fails(t, "one byte less", whole[:159])
	fails(t, "one byte less, at its front", whole[1:])
	fails(t, "one byte more", append(bytes.Clone(whole), 0))
	fails(t, "two blocks", slices.Concat(whole, whole))
	fails(t, "a body alone", bodyOf(5, 6, 1, data(1)))
	fails(t, "0s", make([]byte, 160))
	for n := range 400 {
		fails(t, "any bytes", bytes.Repeat([]byte{byte(n)}, n))
	}
	// Spare room is not asked.
	reads(t, "a block with spare room", append(bytes.Clone(whole), 1, 2, 3)[:160], piece(5, 6, 1))
}

// TestReadWrong: what is sealed, but is no piece.
func TestReadWrong(t *testing.T) {
	body := bodyOf(5, 6, 1, data(1))
	reads(t, "kind 1", sealed(t, 1, body), api.Piece{Stripe: 5, Gen: 6, Index: 1, Data: data(1)})
	for kind := 2; kind < 256; kind++ {
		fails(t, "another kind", sealed(t, kind, body))
	}
	for n := range 154 {
		long := append(bytes.Clone(body), make([]byte, 113)...)
		if n != 40 {
			fails(t, "another length", sealed(t, 1, long[:n]))
			fails(t, "another length", sealed(t, 1, bytes.Repeat([]byte{1}, n)))
		}
	}
	for n := 40; n < 256; n++ {
		fails(t, "a stripe that may not be", sealed(t, 1, bodyOf(n, 6, 1, data(n))))
	}
	for n := 6; n < 256; n++ {
		fails(t, "an index that may not be", sealed(t, 1, bodyOf(5, 6, n, data(n))))
	}
	for _, gen := range []int{0, maxGen + 1, maxGen + 255, maxGen + 256, 2 * maxGen, 2*maxGen + 1, 255 * maxGen, 1<<48 - 1} {
		for index := range 6 {
			fails(t, "a gen that may not be", sealed(t, 1, bodyOf(5, gen, index, data(gen))))
		}
	}
	for bit := range 48 {
		p := piece(5, 1<<bit, 1)
		if bit <= 40 {
			reads(t, "a gen of one bit", laid(t, p), p)
		} else {
			fails(t, "a gen of one bit", laid(t, p))
		}
	}
}

// TestReadAny: sealed bytes in disorder are pieces just where 8.1 says.
func TestReadAny(t *testing.T) {
	for seed := range 20000 {
		x := data(seed * 2654435)
		p := api.Piece{Stripe: int(x[1] % 50), Gen: int(x[2]%2)<<40 + int(x[3]%3), Index: int(x[4] % 8), Data: data(seed)[:32-int(x[5]%4)/3]}
		kind := 1 + int(x[6]%5)/4
		right := kind == 1 && p.Stripe < 40 && p.Gen >= 1 && p.Gen <= maxGen && p.Index < 6 && len(p.Data) == 32
		block := sealed(t, kind, bodyOf(p.Stripe, p.Gen, p.Index, p.Data))
		if right {
			reads(t, "any bytes", block, p)
		} else {
			fails(t, "any bytes", block)
		}
	}
}

func TestPlace(t *testing.T) {
	for _, c := range [][3]int{
		{0, 1, 1}, {0, 2, 0}, {1, 1, 3}, {1, 2, 2}, {39, 1, 79}, {39, 2, 78}, {39, maxGen, 78}, {39, maxGen - 1, 79}, {20, 3, 41}, {20, 1<<32 + 1, 41}, {7, 0, 14},
	} {
		if got := chunk.Place(c[0], c[1]); got != c[2] {
			t.Errorf("8.1: Place(%d, %d): %d, not %d", c[0], c[1], got, c[2])
		}
	}
	for stripe := range 40 {
		for gen := 1; gen < 300; gen++ {
			want := stripe + stripe
			if gen%2 == 1 {
				want++
			}
			if got := chunk.Place(stripe, gen); got != want {
				t.Errorf("8.1: Place(%d, %d): %d, not %d", stripe, gen, got, want)
			}
		}
	}
	// Nothing panics, whatever is asked.
	for _, n := range []int{-1, math.MinInt, math.MaxInt} {
		chunk.Place(n, n)
	}
}

func TestSame(t *testing.T) {
	a := piece(3, 4, 5)
	if !chunk.Same(a, piece(3, 4, 5)) || !chunk.Same(api.Piece{}, api.Piece{}) || !chunk.Same(api.Piece{Data: []byte{}}, api.Piece{}) {
		t.Error("8.1: Same of two that are alike: false")
	}
	others := []api.Piece{{}, {Stripe: 2, Gen: 4, Index: 5, Data: a.Data}, {Stripe: 3, Gen: 5, Index: 5, Data: a.Data}, {Stripe: 3, Gen: 4, Index: 4, Data: a.Data}, {Stripe: 3, Gen: 4, Index: 5}}
	for n := range 32 {
		b := piece(3, 4, 5)
		b.Data[n] ^= 1
		others = append(others, b, api.Piece{Stripe: 3, Gen: 4, Index: 5, Data: a.Data[:n]})
	}
	for _, b := range others {
		if chunk.Same(a, b) || chunk.Same(b, a) {
			t.Errorf("8.1: Same of %v and %v: true", a, b)
		}
	}
	// Of those that are not right, too.
	if w := piece(-1, -1, -1); !chunk.Same(w, piece(-1, -1, -1)) || chunk.Same(w, piece(-1, -2, -1)) {
		t.Error("8.1: Same of those that are not right")
	}
}

// entry is what stands in a block, or is to: a piece, where there is one.
type entry struct {
	at int
	p  api.Piece
	ok bool
}

// plain is a platter of pieces by a list of what was put: what is done, and what is pending.
type plain struct{ done, pending []entry }

// last is what was put in a block last.
func (m *plain) last(at int) entry {
	all := slices.Concat(m.done, m.pending)
	slices.Reverse(all)
	for _, x := range all {
		if x.at == at {
			return x
		}
	}
	return entry{at: at}
}

// get is what Get must tell of a stripe.
func (m *plain) get(stripe int) []api.Piece {
	var l []api.Piece
	for at := 2 * stripe; at < 2*stripe+2; at++ {
		x := m.last(at)
		if x.ok && x.p.Stripe == stripe && x.p.Gen%2 == at%2 {
			l = append(l, x.p)
		}
	}
	if len(l) == 2 && l[0].Gen < l[1].Gen {
		l[0], l[1] = l[1], l[0]
	}
	return l
}

// pair is a platter, and the plain one that it is held against.
type pair struct {
	d *platter.Platter
	m *plain
}

func fresh(blocks int) *pair { return &pair{platter.New(blocks), &plain{}} }

// put puts a piece that is right in both.
func (a *pair) put(t *testing.T, p api.Piece) {
	t.Helper()
	writes := a.d.Writes()
	if e := chunk.Put(a.d, p); e != api.OK {
		t.Fatalf("8.1: Put of %v: %d", p, e)
	}
	at := p.Stripe + p.Stripe
	if p.Gen%2 == 1 {
		at++
	}
	a.m.pending = append(a.m.pending, entry{at, p, true})
	if b, _ := a.d.Read(at); !bytes.Equal(b, laid(t, p)) || a.d.Writes() != writes+1 {
		t.Errorf("8.1: Put of %v: %v in block %d, %d Writes", p, b, at, a.d.Writes()-writes)
	}
}

// raw writes a block, past Put, whose piece is p, if there is one.
func (a *pair) raw(t *testing.T, at int, block []byte, p api.Piece, ok bool) {
	t.Helper()
	if !a.d.Write(at, block) {
		t.Fatalf("Write of block %d: false", at)
	}
	a.m.pending = append(a.m.pending, entry{at, p, ok})
}

// stray writes a piece in a block that need not be its own.
func (a *pair) stray(t *testing.T, at int, p api.Piece) {
	t.Helper()
	a.raw(t, at, laid(t, p), p, true)
}

func (a *pair) flush() {
	a.d.Flush()
	a.m.done, a.m.pending = append(a.m.done, a.m.pending...), nil
}

func (a *pair) crash(keep ...int) {
	a.d.Crash(keep)
	for n, x := range a.m.pending {
		if slices.Contains(keep, n) {
			a.m.done = append(a.m.done, x)
		}
	}
	a.m.pending = nil
}

func (a *pair) wipe() {
	a.d.Wipe()
	a.m.done, a.m.pending = nil, nil
}

// outside are stripes of which there is none.
func outside() []int {
	return []int{-1, -2, -20, -40, 40, 41, 47, 48, 80, 1 << 32, -1 << 32, 1 << 61, 1 << 62, 1<<62 + 5, -1 << 62, math.MaxInt, math.MinInt, math.MinInt + 5}
}

// holds checks what is got of each stripe, that what is pending is just what was written, and that Get turns nothing.
func (a *pair) holds(t *testing.T, what string) {
	t.Helper()
	writes := a.d.Writes()
	for stripe := range 40 {
		for range 2 {
			if got, want := chunk.Get(a.d, stripe), a.m.get(stripe); !slices.EqualFunc(got, want, same) {
				t.Fatalf("8.1: %s: Get(%d): %v, not %v", what, stripe, got, want)
			}
		}
	}
	for _, stripe := range outside() {
		if got := chunk.Get(a.d, stripe); len(got) != 0 {
			t.Errorf("8.1: %s: Get(%d): %v", what, stripe, got)
		}
	}
	var places []int
	for _, x := range a.m.pending {
		places = append(places, x.at)
	}
	if got := a.d.Pending(); !slices.Equal(got, places) || a.d.Writes() != writes {
		t.Fatalf("8.1: %s: pending %v, not %v", what, got, places)
	}
}

// gens checks the gens of a stripe's pieces.
func gens(t *testing.T, what string, d *platter.Platter, stripe int, want ...int) {
	t.Helper()
	var got []int
	for _, p := range chunk.Get(d, stripe) {
		got = append(got, p.Gen)
		if p.Stripe != stripe {
			t.Errorf("8.1: %s: Get(%d) told of stripe %d", what, stripe, p.Stripe)
		}
	}
	if !slices.Equal(got, want) {
		t.Errorf("8.1: %s: Get(%d): %v, not %v", what, stripe, got, want)
	}
}

func TestExample(t *testing.T) {
	d := platter.New(96)
	for gen := 1; gen <= 3; gen++ {
		if e := chunk.Put(d, piece(9, gen, 2)); e != api.OK {
			t.Errorf("8.1: Put of gen %d: %d", gen, e)
		}
	}
	gens(t, "the example", d, 9, 3, 2)
}

// TestOrders: gens of one stripe, rising, falling, mixed, one twice.
func TestOrders(t *testing.T) {
	for _, c := range []struct{ put, want []int }{
		{[]int{1}, []int{1}}, {[]int{2}, []int{2}}, {[]int{1, 2}, []int{2, 1}}, {[]int{2, 1}, []int{2, 1}}, {[]int{2, 3}, []int{3, 2}}, {[]int{3, 2}, []int{3, 2}},
		{[]int{3, 2, 1}, []int{2, 1}}, {[]int{4, 3, 2, 1}, []int{2, 1}}, {[]int{1, 2, 3, 4}, []int{4, 3}}, {[]int{1, 3, 5}, []int{5}}, {[]int{5, 3, 1}, []int{1}},
		{[]int{2, 4, 2}, []int{2}}, {[]int{7, 4, 9}, []int{9, 4}}, {[]int{7, 7}, []int{7}}, {[]int{1, 10}, []int{10, 1}}, {[]int{10, 1}, []int{10, 1}}, {[]int{9, 10, 9}, []int{10, 9}},
		{[]int{1, maxGen}, []int{maxGen, 1}}, {[]int{maxGen, maxGen - 1}, []int{maxGen, maxGen - 1}}, {[]int{256, 1}, []int{256, 1}}, {[]int{255, 256}, []int{256, 255}},
		{[]int{1<<32 + 1, 2}, []int{1<<32 + 1, 2}}, {[]int{1, 1 << 32}, []int{1 << 32, 1}},
	} {
		for _, stripe := range []int{0, 1, 38, 39} {
			a := fresh(96)
			for n, gen := range c.put {
				a.put(t, piece(stripe, gen, n%6))
				a.holds(t, "Puts of one stripe")
			}
			gens(t, "Puts of one stripe", a.d, stripe, c.want...)
		}
	}
}

// TestTwice: one gen twice, with another index and other data: the later one stands.
func TestTwice(t *testing.T) {
	a := fresh(96)
	one := api.Piece{Stripe: 6, Gen: 4, Index: 1, Data: data(1)}
	two := api.Piece{Stripe: 6, Gen: 4, Index: 5, Data: data(2)}
	for _, p := range []api.Piece{one, two, two, one} {
		a.put(t, p)
		if l := chunk.Get(a.d, 6); len(l) != 1 || !same(l[0], p) {
			t.Errorf("8.1: Put of one gen again: %v, not %v", l, p)
		}
	}
	a.holds(t, "one gen again")
}

// TestAll: each stripe's two blocks, on the least platter, on one of a node, and on greater ones.
func TestAll(t *testing.T) {
	for _, blocks := range []int{80, 81, 96, 1000} {
		a := fresh(blocks)
		a.holds(t, "a new one")
		for stripe := range 40 {
			a.put(t, piece(stripe, 2*stripe+1, stripe%6))
		}
		a.holds(t, "the odd gens")
		for stripe := 39; stripe >= 0; stripe-- {
			a.put(t, piece(stripe, 2*stripe+2, stripe%6))
		}
		a.holds(t, "all of them")
		for k := range blocks {
			if b, _ := a.d.Read(k); (k >= 80) != bytes.Equal(b, make([]byte, 160)) {
				t.Errorf("8.1: block %d of %d: %v", k, blocks, b)
			}
		}
		a.flush()
		a.holds(t, "flushed")
		a.put(t, piece(39, 3, 0))
		a.put(t, piece(0, 4, 0))
		a.holds(t, "the first and the last once more")
	}
}

// blocksOf is all that stands on a platter.
func blocksOf(d *platter.Platter) [][]byte {
	var l [][]byte
	for k := range d.Blocks() {
		b, _ := d.Read(k)
		l = append(l, b)
	}
	return l
}

// TestPutWrong: of a piece that is not right, and of a platter that is too small, nothing is turned.
func TestPutWrong(t *testing.T) {
	a := fresh(96)
	a.put(t, piece(0, 1, 0))
	a.put(t, piece(39, 2, 0))
	a.flush()
	a.put(t, piece(0, 2, 0))
	was, writes := blocksOf(a.d), a.d.Writes()
	for _, p := range wrongs() {
		if e := chunk.Put(a.d, p); e != api.ErrArg {
			t.Errorf("8.1: Put of %v: %d", p, e)
		}
		if a.d.Writes() != writes || !slices.EqualFunc(blocksOf(a.d), was, bytes.Equal) {
			t.Fatalf("8.1, R3: Put of %v turned what was there", p)
		}
		if e := chunk.Put(nil, p); e != api.ErrArg {
			t.Errorf("8.1: Put of %v on no platter: %d", p, e)
		}
	}
	a.holds(t, "wrong ones")
	for _, p := range []api.Piece{piece(0, 1, 0), piece(0, 2, 0), piece(39, 1, 5), piece(20, maxGen, 3)} {
		for _, blocks := range []int{-5, 0, 1, 2, 40, 41, 78, 79} {
			d := platter.New(blocks)
			if e := chunk.Put(d, p); e != api.ErrArg || d.Writes() != 0 || len(d.Pending()) != 0 {
				t.Errorf("8.1, R3: Put on %d blocks: %d, %d Writes", blocks, e, d.Writes())
			}
			for k, b := range blocksOf(d) {
				if !bytes.Equal(b, make([]byte, 160)) {
					t.Errorf("8.1, R3: Put on %d blocks turned block %d", blocks, k)
				}
			}
		}
		if e := chunk.Put(nil, p); e != api.ErrArg {
			t.Errorf("8.1: Put on no platter: %d", e)
		}
		if e := chunk.Put(platter.New(80), p); e != api.OK {
			t.Errorf("8.1: Put on 80 blocks: %d", e)
		}
	}
	if e := chunk.Put(&platter.Platter{}, piece(0, 1, 0)); e != api.ErrArg {
		t.Errorf("R1: Put on a platter that New did not make: %d", e)
	}
}

// TestGetNone: of no platter, and of one that is small or not made.
func TestGetNone(t *testing.T) {
	for stripe := -3; stripe < 50; stripe++ {
		for what, d := range map[string]*platter.Platter{"none": nil, "not made": {}, "of one block": platter.New(1), "of 79": platter.New(79), "a new one": platter.New(96)} {
			if l := chunk.Get(d, stripe); len(l) != 0 {
				t.Errorf("8.1: Get of a platter %s: %v", what, l)
			}
		}
	}
	for _, stripe := range outside() {
		if l := chunk.Get(nil, stripe); len(l) != 0 {
			t.Errorf("8.1: Get(%d) of no platter: %v", stripe, l)
		}
	}
	// Of a stripe's two blocks those are Read that there are.
	a := fresh(3)
	a.stray(t, 0, piece(0, 2, 0))
	a.stray(t, 1, piece(0, 1, 0))
	a.stray(t, 2, piece(1, 4, 0))
	gens(t, "three blocks", a.d, 0, 2, 1)
	gens(t, "three blocks", a.d, 1, 4)
	gens(t, "three blocks", a.d, 2)
	a.holds(t, "three blocks")
}

// TestStray: pieces that stand where they do not belong are not told; what is beside them is.
func TestStray(t *testing.T) {
	for _, stripe := range []int{0, 1, 20, 38, 39} {
		for turn := range 2 {
			for _, p := range []api.Piece{
				piece(stripe, 7+turn, 0), piece(stripe, 8+turn, 0), piece(stripe, 9+turn, 0),
				piece((stripe+1)%40, 6+turn, 1), piece((stripe+39)%40, 6+turn, 1), piece((stripe+20)%40, 4+turn, 1), piece((stripe+1)%40, 5+turn, 1),
			} {
				a := fresh(96)
				a.put(t, piece(stripe, 1, 3))
				a.put(t, piece(stripe, 2, 3))
				a.stray(t, 2*stripe+turn, p)
				a.holds(t, "a piece that need not belong there")
				a.crash(0, 1)
				a.holds(t, "behind a Crash without it")
				gens(t, "behind a Crash without it", a.d, stripe, 2, 1)
			}
		}
	}
	// One piece in each block of a platter, the ring's blocks too: told of its own alone.
	for _, p := range []api.Piece{piece(0, 1, 0), piece(0, 2, 0), piece(39, 7, 5), piece(39, maxGen, 5), piece(12, 30, 1)} {
		a := fresh(96)
		for at := range 96 {
			a.stray(t, at, p)
		}
		a.holds(t, "one piece all over")
		gens(t, "one piece all over", a.d, p.Stripe, p.Gen)
	}
}

// TestBroken: a block that is no piece, in one of the two places, or in both.
func TestBroken(t *testing.T) {
	turned := laid(t, piece(8, 6, 0))
	turned[40] ^= 1
	for _, block := range [][]byte{
		make([]byte, 160), bytes.Repeat([]byte{0xff}, 160), turned, sealed(t, 2, bodyOf(8, 6, 0, data(1))), sealed(t, 1, nil), sealed(t, 1, bodyOf(8, 0, 0, data(1))),
		sealed(t, 1, bodyOf(8, 6, 6, data(1))), sealed(t, 1, bodyOf(8, maxGen+2, 0, data(1))), sealed(t, 1, bodyOf(48, 6, 0, data(1))), sealed(t, 1, bodyOf(8, 6, 0, data(1)[:31])),
	} {
		for turn := range 2 {
			a := fresh(96)
			for _, stripe := range []int{7, 8, 9} {
				a.put(t, piece(stripe, 4, 0))
				a.put(t, piece(stripe, 5, 0))
			}
			a.raw(t, 16+turn, block, api.Piece{}, false)
			a.holds(t, "a broken block")
			gens(t, "a broken block", a.d, 8, 5-turn)
			a.raw(t, 17-turn, block, api.Piece{}, false)
			a.holds(t, "two broken blocks")
			gens(t, "two broken blocks", a.d, 8)
			a.put(t, piece(8, 6, 0))
			gens(t, "a Put over a broken block", a.d, 8, 6)
		}
	}
}

// TestCrash: Puts that are pending, flushed, kept by a Crash or not, and wiped.
func TestCrash(t *testing.T) {
	for keep := range 16 {
		a := fresh(96)
		a.put(t, piece(5, 1, 2))
		a.put(t, piece(5, 2, 2))
		a.flush()
		gens(t, "flushed", a.d, 5, 2, 1)
		for gen := 3; gen < 7; gen++ {
			a.put(t, piece(5, gen, 2))
		}
		a.holds(t, "pending")
		gens(t, "pending", a.d, 5, 6, 5)
		var numbers []int
		want := []int{1, 2}
		for n := range 4 {
			if keep>>n&1 == 1 {
				numbers = append(numbers, n)
				want[n%2] = n + 3
			}
		}
		a.crash(numbers...)
		a.holds(t, "behind a Crash")
		slices.Sort(want)
		gens(t, "behind a Crash", a.d, 5, want[1], want[0])
		a.wipe()
		a.holds(t, "wiped")
		gens(t, "wiped", a.d, 5)
		a.put(t, piece(5, 9, 0))
		a.crash()
		gens(t, "a Put behind a Wipe, taken back", a.d, 5)
		a.put(t, piece(5, 9, 0))
		a.crash(0)
		gens(t, "a Put behind a Wipe, kept", a.d, 5, 9)
	}
}

// dice are numbers in a disorder that is the same each time.
type dice uint32

// roll is one of 0 to n - 1.
func (d *dice) roll(n int) int {
	*d = *d*1664525 + 1013904223
	return int(*d>>8) % n
}

// step does one of all things that may be done to a pair; stripes are few, so that they meet.
func (a *pair) step(t *testing.T, d *dice) {
	t.Helper()
	p := piece(d.roll(6)*39/5, 1+d.roll(9), d.roll(6))
	switch d.roll(12) {
	case 0:
		a.flush()
	case 1:
		var keep []int
		for range d.roll(8) {
			keep = append(keep, d.roll(len(a.m.pending)+2)-1)
		}
		a.crash(keep...)
	case 2:
		if d.roll(4) == 0 {
			a.wipe()
		}
	case 3:
		a.stray(t, d.roll(80), p)
	case 4:
		a.raw(t, d.roll(80), make([]byte, 160), api.Piece{}, false)
	case 5:
		p.Stripe, p.Gen, p.Index = p.Stripe-40*d.roll(2), p.Gen*d.roll(2), p.Index+6
		if e := chunk.Put(a.d, p); e != api.ErrArg {
			t.Errorf("8.1: Put of %v: %d", p, e)
		}
	default:
		a.put(t, p)
	}
}

// TestRuns: runs of many calls, each against a plain list of what was put, and each done twice (R4), on platters that know nothing of one another (R7).
func TestRuns(t *testing.T) {
	for run := range 25 {
		d, again := dice(run), dice(run)
		a, b := fresh(80+run), fresh(80+run)
		for range 120 {
			a.step(t, &d)
			a.holds(t, "a run")
		}
		for range 120 {
			b.step(t, &again)
		}
		b.holds(t, "the same run again")
		a.holds(t, "the run, behind the same one on another platter")
		if !slices.EqualFunc(blocksOf(a.d), blocksOf(b.d), bytes.Equal) {
			t.Error("R4: the same run again led to other blocks")
		}
	}
}

// guarded is a list with three places of spare room, whose bytes are 0xa5.
func guarded(b []byte) []byte { return append(bytes.Clone(b), 0xa5, 0xa5, 0xa5)[:len(b)] }

// kept checks that l, that guarded made of b, is as it was, its spare room too.
func kept(t *testing.T, what string, l, b []byte) {
	t.Helper()
	if !bytes.Equal(l, b) || string(l[:len(l)+3][len(l):]) != "\xa5\xa5\xa5" {
		t.Errorf("R2: %s: what was given is turned: %v, not %v", what, l[:len(l)+3], b)
	}
}

// scribble writes over a list, and over its spare room.
func scribble(b []byte) {
	b = b[:cap(b)]
	for k := range b {
		b[k] ^= 0x5a
	}
}

func TestLayKept(t *testing.T) {
	for n := range 40 {
		p := piece(5, 6, 1)
		p.Data = guarded(bytes.Repeat([]byte{9}, n))
		one, e := chunk.Lay(p)
		other, _ := chunk.Lay(p)
		chunk.Right(p)
		chunk.Same(p, p)
		kept(t, "Lay", p.Data, bytes.Repeat([]byte{9}, n))
		if n != 32 {
			continue
		}
		scribble(one)
		kept(t, "Lay, its answer written to", p.Data, bytes.Repeat([]byte{9}, n))
		scribble(p.Data)
		p.Data = bytes.Repeat([]byte{9}, n)
		if e != api.OK || !bytes.Equal(other, laid(t, p)) {
			t.Errorf("R2: Lay's answer shares memory: %v", other)
		}
	}
}

func TestReadKept(t *testing.T) {
	p := piece(5, 6, 1)
	block := guarded(laid(t, p))
	one, _ := chunk.Read(block)
	other, _ := chunk.Read(block)
	scribble(one.Data)
	kept(t, "Read, its answer written to", block, laid(t, p))
	scribble(block)
	if !same(other, p) {
		t.Errorf("R2: Read's answer shares memory: %v", other)
	}
	for _, was := range [][]byte{{}, laid(t, p)[:159], make([]byte, 160), sealed(t, 2, bodyOf(5, 6, 1, p.Data)), sealed(t, 1, bodyOf(5, 0, 1, p.Data))} {
		b := guarded(was)
		fails(t, "a wrong one", b)
		kept(t, "Read of a wrong one", b, was)
	}
}

func TestPutKept(t *testing.T) {
	a := fresh(96)
	for gen := 1; gen < 5; gen++ {
		p := piece(5, gen, 1)
		was := bytes.Clone(p.Data)
		p.Data = guarded(was)
		if e := chunk.Put(a.d, p); e != api.OK {
			t.Fatalf("8.1: Put: %d", e)
		}
		kept(t, "Put", p.Data, was)
		scribble(p.Data)
		a.m.pending = append(a.m.pending, entry{10 + gen%2, piece(5, gen, 1), true})
		a.holds(t, "what was put is written to, R2")
	}
	wrong := guarded(data(1))
	chunk.Put(a.d, api.Piece{Stripe: 40, Gen: 1, Data: wrong})
	chunk.Put(nil, api.Piece{Stripe: 1, Gen: 1, Data: wrong})
	chunk.Put(platter.New(79), api.Piece{Stripe: 1, Gen: 1, Data: wrong})
	kept(t, "Put of a wrong one", wrong, data(1))
}

// TestGetKept: what is got is not shared, neither with the platter nor within the answer, nor with another one.
func TestGetKept(t *testing.T) {
	a := fresh(96)
	a.put(t, piece(5, 1, 1))
	a.put(t, piece(5, 2, 1))
	for range 2 {
		one, other := chunk.Get(a.d, 5), chunk.Get(a.d, 5)
		scribble(one[0].Data)
		if !same(one[1], piece(5, 1, 1)) {
			t.Errorf("R2: two pieces of one answer share memory: %v", one[1])
		}
		scribble(one[1].Data)
		one = one[:cap(one)]
		for k := range one {
			one[k] = api.Piece{}
		}
		if len(other) != 2 || !same(other[0], piece(5, 2, 1)) || !same(other[1], piece(5, 1, 1)) {
			t.Errorf("R2: two answers of Get share memory: %v", other)
		}
		a.holds(t, "what was got is written to, R2")
		a.flush()
	}
}
