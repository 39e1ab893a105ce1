package intent_test

import (
	"bytes"
	"fmt"
	"math"
	"slices"
	"testing"

	"corbel/api"
	"corbel/intent"
	"corbel/mark"
	"corbel/platter"
)

// maxGen is the greatest gen that there may be, maxNumber the greatest number.
const (
	maxGen    = 1 << 40
	maxNumber = 1<<48 - 1
)

// data is 128 bytes in a disorder that is the same each time.
func data(seed int) []byte {
	b, x := make([]byte, 128), uint32(seed)
	for k := range b {
		x = x*1664525 + 1013904223
		b[k] = byte(x >> 24)
	}
	b[0], b[127] = byte(seed), byte(seed>>8)
	return b
}

// some is an intent that is right, if its numbers are; seed tells its bytes.
func some(stripe, gen, seed int) api.Intent {
	return api.Intent{Stripe: stripe, Gen: gen, Data: data(seed)}
}

// bodyOf is what is sealed of an intent, by 9.1's own words, whatever its numbers are.
func bodyOf(number int, i api.Intent) []byte {
	b := []byte{byte(number >> 40), byte(number >> 32), byte(number >> 24), byte(number >> 16), byte(number >> 8), byte(number), byte(i.Stripe)}
	b = append(b, byte(i.Gen>>40), byte(i.Gen>>32), byte(i.Gen>>24), byte(i.Gen>>16), byte(i.Gen>>8), byte(i.Gen))
	return append(b, i.Data...)
}

// sealed is a body as a block of that kind.
func sealed(t *testing.T, kind int, body []byte) []byte {
	t.Helper()
	b, e := mark.Seal(kind, body)
	if e != api.OK {
		t.Fatalf("Seal of %v as %d: %d", body, kind, e)
	}
	return b
}

// laid is the block of an intent.
func laid(t *testing.T, number int, i api.Intent) []byte {
	t.Helper()
	return sealed(t, 2, bodyOf(number, i))
}

// same is intent.Same by its fields.
func same(a, b api.Intent) bool {
	return a.Stripe == b.Stripe && a.Gen == b.Gen && string(a.Data) == string(b.Data)
}

// rights are intents that are right, those at each edge among them.
func rights() []api.Intent {
	var l []api.Intent
	for _, stripe := range []int{0, 1, 7, 38, 39} {
		for _, gen := range []int{1, 2, 255, 256, 258, 65535, 1 << 16, 1<<24 + 3, 1<<32 - 1, 1 << 32, 0x0102030405, maxGen - 1, maxGen} {
			l = append(l, some(stripe, gen, stripe*7+gen))
		}
	}
	for _, fill := range []byte{0, 1, 0x80, 0xff} {
		l = append(l, api.Intent{Stripe: 3, Gen: 9, Data: bytes.Repeat([]byte{fill}, 128)})
	}
	return l
}

// wrongs are intents of which one thing, or all, may not be.
func wrongs() []api.Intent {
	l := []api.Intent{{}, {Stripe: 40}, {Stripe: 1, Gen: 1}, {Stripe: -1, Gen: -1, Data: []byte{}}}
	for _, n := range []int{-1, -2, -40, 40, 41, 47, 48, 80, 255, 256, 1<<32 + 1, -1 << 32, math.MaxInt, math.MinInt} {
		l = append(l, some(n, 1, 0))
	}
	for _, n := range []int{0, -1, -maxGen, maxGen + 1, maxGen + 2, 2 * maxGen, 1<<48 - 1, 1 << 48, 1<<48 + 1, math.MaxInt, math.MinInt, math.MinInt + 1} {
		l = append(l, some(0, n, 0))
	}
	for _, n := range []int{0, 1, 32, 127, 129, 140, 141, 160, 256, 384} {
		l = append(l, api.Intent{Stripe: 39, Gen: maxGen, Data: bytes.Repeat([]byte{7}, n)})
	}
	spare := some(39, maxGen, 5)
	spare.Data = spare.Data[:127]
	return append(l, spare)
}

// entry is what stands in a block of a platter, or is to: its bytes, and the intent that is in it, of number 0, if there is none.
type entry struct {
	at     int
	bytes  []byte
	number int
	i      api.Intent
}

// plain is a platter and its ring by lists: what is done, what is pending, what is live, and the last number.
type plain struct {
	done, pending, live []entry
	last                int
}

// stands is what was written in a block last.
func (m *plain) stands(at int) entry {
	for _, l := range [][]entry{m.pending, m.done} {
		for k := len(l) - 1; k >= 0; k-- {
			if l[k].at == at {
				return l[k]
			}
		}
	}
	return entry{at: at, bytes: make([]byte, 160)}
}

// open makes live what stands in the ring.
func (m *plain) open() {
	m.live, m.last = nil, 0
	for at := 80; at < 96; at++ {
		if x := m.stands(at); x.number > 0 {
			m.live = append(m.live, x)
			m.last = max(m.last, x.number)
		}
	}
}

// log is what Log must answer of an intent that is right, and what it must write, if it does.
func (m *plain) log(t *testing.T, i api.Intent) (entry, bool, api.Errno) {
	t.Helper()
	if slices.ContainsFunc(m.live, func(x entry) bool { return same(x.i, i) }) {
		return entry{}, false, api.OK
	}
	if m.last == maxNumber {
		return entry{}, false, api.ErrFull
	}
	for at := 80; at < 96; at++ {
		if slices.ContainsFunc(m.live, func(x entry) bool { return x.at == at }) {
			continue
		}
		m.last++
		x := entry{at, laid(t, m.last, i), m.last, i}
		m.live, m.pending = append(m.live, x), append(m.pending, x)
		return x, true, api.OK
	}
	return entry{}, false, api.ErrFull
}

// release is how many of a stripe and a gen were live.
func (m *plain) release(stripe, gen int) int {
	n := 0
	for k := len(m.live) - 1; k >= 0; k-- {
		if m.live[k].i.Stripe == stripe && m.live[k].i.Gen == gen {
			m.live = slices.Delete(m.live, k, k+1)
			n++
		}
	}
	return n
}

// told is what Live must tell: of what is left each time the one with the least number, of several the one in the first block.
func (m *plain) told() []api.Intent {
	var l []api.Intent
	left := slices.Clone(m.live)
	for len(left) > 0 {
		least := 0
		for k, x := range left {
			if x.number < left[least].number || x.number == left[least].number && x.at < left[least].at {
				least = k
			}
		}
		l = append(l, left[least].i)
		left = slices.Delete(left, least, least+1)
	}
	return l
}

// pair is a platter and its ring, and the plain ones that they are held against.
type pair struct {
	d *platter.Platter
	r *intent.Ring
	m *plain
}

// fresh is a pair with an open ring over a new platter.
func fresh(t *testing.T) *pair {
	t.Helper()
	a := &pair{d: platter.New(96), m: &plain{}}
	a.open(t)
	return a
}

// open opens the ring anew; nothing is written by it.
func (a *pair) open(t *testing.T) {
	t.Helper()
	was, writes := blocksOf(a.d), a.d.Writes()
	r, e := intent.Open(a.d)
	if e != api.OK || r == nil {
		t.Fatalf("9.1: Open: %v %d", r, e)
	}
	a.r = r
	a.m.open()
	if a.d.Writes() != writes || !slices.EqualFunc(blocksOf(a.d), was, bytes.Equal) {
		t.Error("9.1: Open turned the platter")
	}
}

// log logs an intent that is right in both, and checks what is written.
func (a *pair) log(t *testing.T, i api.Intent) api.Errno {
	t.Helper()
	was, writes := blocksOf(a.d), a.d.Writes()
	x, written, want := a.m.log(t, i)
	if written {
		was[x.at] = x.bytes
		writes++
	}
	e := a.r.Log(i)
	if e != want {
		t.Fatalf("9.1: Log of %v: %d, not %d", i, e, want)
	}
	if a.d.Writes() != writes || !slices.EqualFunc(blocksOf(a.d), was, bytes.Equal) {
		t.Fatalf("9.1: Log of %v: %d Writes, not %d, or other blocks", i, a.d.Writes(), writes)
	}
	return e
}

// release releases in both; no block is turned by it.
func (a *pair) release(t *testing.T, stripe, gen int) int {
	t.Helper()
	was, writes := blocksOf(a.d), a.d.Writes()
	want := a.m.release(stripe, gen)
	got := a.r.Release(stripe, gen)
	if got != want {
		t.Errorf("9.1: Release(%d, %d): %d, not %d", stripe, gen, got, want)
	}
	if a.d.Writes() != writes || !slices.EqualFunc(blocksOf(a.d), was, bytes.Equal) {
		t.Errorf("9.1: Release(%d, %d) turned the platter", stripe, gen)
	}
	return got
}

// wrong logs what is not right: nothing is turned by it.
func (a *pair) wrong(t *testing.T, i api.Intent) {
	t.Helper()
	writes := a.d.Writes()
	if e := a.r.Log(i); e != api.ErrArg || a.d.Writes() != writes {
		t.Errorf("9.1, R3: Log of %v: %d, %d Writes", i, e, a.d.Writes()-writes)
	}
}

// raw writes a block past the ring; number is that of the intent in it, 0, if it is none.
func (a *pair) raw(t *testing.T, at int, block []byte, number int, i api.Intent) {
	t.Helper()
	if !a.d.Write(at, block) {
		t.Fatalf("Write of block %d: false", at)
	}
	a.m.pending = append(a.m.pending, entry{at, bytes.Clone(block), number, i})
}

// stray writes an intent past the ring.
func (a *pair) stray(t *testing.T, at, number int, i api.Intent) {
	t.Helper()
	a.raw(t, at, laid(t, number, i), number, i)
}

func (a *pair) flush() {
	a.d.Flush()
	a.m.done, a.m.pending = append(a.m.done, a.m.pending...), nil
}

func (a *pair) crash(keep ...int) {
	a.d.Crash(keep)
	for n, x := range a.m.pending {
		if slices.Contains(keep, n) {
			a.m.done = append(a.m.done, x)
		}
	}
	a.m.pending = nil
}

func (a *pair) wipe() {
	a.d.Wipe()
	a.m.done, a.m.pending = nil, nil
}

// holds checks what is told of a ring, twice, as telling turns nothing, and what is pending.
func (a *pair) holds(t *testing.T, what string) {
	t.Helper()
	writes := a.d.Writes()
	want := a.m.told()
	for range 2 {
		if got := a.r.Live(); !slices.EqualFunc(got, want, same) {
			t.Fatalf("9.1: %s: Live: %v, not %v", what, got, want)
		}
		if got := a.r.Free(); got != 16-len(want) {
			t.Fatalf("9.1: %s: Free: %d with %d live", what, got, len(want))
		}
	}
	var blocks []int
	for _, x := range a.m.pending {
		blocks = append(blocks, x.at)
	}
	if got := a.d.Pending(); !slices.Equal(got, blocks) || a.d.Writes() != writes {
		t.Fatalf("9.1: %s: pending %v, not %v", what, got, blocks)
	}
}

// gens checks the gens of what is live, in order.
func (a *pair) gens(t *testing.T, what string, want ...int) {
	t.Helper()
	a.holds(t, what)
	var got []int
	for _, i := range a.r.Live() {
		got = append(got, i.Gen)
	}
	if !slices.Equal(got, want) {
		t.Errorf("9.1: %s: gens %v live, not %v", what, got, want)
	}
}

// next checks which number comes next: it is logged, and read from the block.
func (a *pair) next(t *testing.T, what string, at, number int) {
	t.Helper()
	i := some(11, 12345, number)
	if e := a.log(t, i); e != api.OK {
		t.Fatalf("9.1: %s: Log: %d", what, e)
	}
	if b, _ := a.d.Read(at); !bytes.Equal(b, laid(t, number, i)) {
		t.Errorf("9.1: %s: block %d is not the intent of number %d: %v", what, at, number, b)
	}
	a.holds(t, what)
}

// blocksOf is all that stands on a platter.
func blocksOf(d *platter.Platter) [][]byte {
	var l [][]byte
	for k := range d.Blocks() {
		b, _ := d.Read(k)
		l = append(l, b)
	}
	return l
}

func TestRight(t *testing.T) {
	for _, i := range rights() {
		if !intent.Right(i) {
			t.Errorf("9.1: Right of %v: false", i)
		}
	}
	for _, i := range wrongs() {
		if intent.Right(i) {
			t.Errorf("9.1: Right of %v: true", i)
		}
	}
	for stripe := -50; stripe < 300; stripe++ {
		if got := intent.Right(some(stripe, 5, 5)); got != (stripe >= 0 && stripe < 40) {
			t.Errorf("9.1: Right of stripe %d: %v", stripe, got)
		}
	}
	for n := range 400 {
		i := api.Intent{Stripe: 5, Gen: 5, Data: bytes.Repeat([]byte{1}, n)}
		if got := intent.Right(i); got != (n == 128) {
			t.Errorf("9.1: Right of %d bytes: %v", n, got)
		}
	}
}

func TestSame(t *testing.T) {
	a := some(3, 4, 5)
	if !intent.Same(a, some(3, 4, 5)) || !intent.Same(api.Intent{}, api.Intent{}) || !intent.Same(api.Intent{Data: []byte{}}, api.Intent{}) {
		t.Error("9.1: Same of two that are alike: false")
	}
	others := []api.Intent{{}, {Stripe: 2, Gen: 4, Data: a.Data}, {Stripe: 3, Gen: 5, Data: a.Data}, {Stripe: 3, Gen: 4}}
	for n := range 128 {
		b := some(3, 4, 5)
		b.Data[n] ^= 1
		others = append(others, b, api.Intent{Stripe: 3, Gen: 4, Data: a.Data[:n]})
	}
	for _, b := range others {
		if intent.Same(a, b) || intent.Same(b, a) {
			t.Errorf("9.1: Same of %v and %v: true", a, b)
		}
	}
	// Of those that are not right, too.
	if w := some(-1, -1, 1); !intent.Same(w, some(-1, -1, 1)) || intent.Same(w, some(-1, -2, 1)) {
		t.Error("9.1: Same of those that are not right")
	}
}

func TestExample(t *testing.T) {
	a := fresh(t)
	for n := range 16 {
		if e := a.log(t, some(n, n+1, n)); e != api.OK {
			t.Errorf("9.1: Log %d: %d", n, e)
		}
		a.holds(t, "the example")
	}
	if e := a.r.Log(some(30, 1, 0)); e != api.ErrFull {
		t.Errorf("9.1: Log of another one: %d", e)
	}
	a.holds(t, "the example, full")
}

// TestNew: a ring with nothing in it.
func TestNew(t *testing.T) {
	a := fresh(t)
	a.gens(t, "a new one")
	if a.r.Free() != 16 || len(a.r.Live()) != 0 || a.r.Release(0, 0) != 0 || a.r.Release(0, 1) != 0 {
		t.Error("9.1: a new one")
	}
	a.next(t, "a new one", 80, 1)
	a.next(t, "a new one", 81, 2)
}

// TestLogWritten: one block, byte by byte.
func TestLogWritten(t *testing.T) {
	a := fresh(t)
	a.stray(t, 80, 0x0a0b0c0d0e0e, some(0, 1, 0))
	a.open(t)
	i := some(39, 0x0102030405, 77)
	if e := a.r.Log(i); e != api.OK {
		t.Fatalf("9.1: Log: %d", e)
	}
	want := append([]byte{2, 0, 141, 0x0a, 0x0b, 0x0c, 0x0d, 0x0e, 0x0f, 39, 0, 1, 2, 3, 4, 5}, i.Data...)
	want = append(want, make([]byte, 156-len(want))...)
	sum := mark.Sum(want)
	want = append(want, byte(sum>>24), byte(sum>>16), byte(sum>>8), byte(sum))
	if got, _ := a.d.Read(81); !bytes.Equal(got, want) {
		t.Errorf("9.1: Log wrote %v, not %v", got, want)
	}
}

// TestLogRight: each intent that is right is written as mark Seals it, and is live, here and in a ring that is opened anew.
func TestLogRight(t *testing.T) {
	a := fresh(t)
	for n, i := range rights() {
		if n%16 == 0 {
			a.wipe()
			a.open(t)
		}
		if e := a.log(t, i); e != api.OK {
			t.Errorf("9.1: Log of %v: %d", i, e)
		}
		a.holds(t, "one that is right")
		a.open(t)
		a.holds(t, "one that is right, opened again")
	}
}

// TestLogWrong: what is not right turns nothing, be the ring empty, in between or full.
func TestLogWrong(t *testing.T) {
	a := fresh(t)
	for n := range 17 {
		for _, i := range wrongs() {
			a.wrong(t, i)
		}
		a.holds(t, "wrong ones")
		a.log(t, some(n, 1, n))
	}
	for n := range 400 {
		if n != 128 {
			a.wrong(t, api.Intent{Stripe: 1, Gen: 1, Data: make([]byte, n)})
		}
	}
	a.release(t, 3, 1)
	for _, i := range wrongs() {
		a.wrong(t, i)
	}
	a.next(t, "behind wrong ones", 83, 17)
}

// TestLogLive: what is live already is not written again; what differs in one thing is.
func TestLogLive(t *testing.T) {
	a := fresh(t)
	a.log(t, some(3, 1, 7))
	turned := some(3, 1, 7)
	turned.Data[127] ^= 1
	first := some(3, 1, 7)
	first.Data[0] ^= 1
	for _, i := range []api.Intent{some(3, 2, 7), some(4, 1, 7), some(3, 1, 8), turned, first} {
		a.log(t, i)
		for range 2 {
			a.log(t, some(3, 1, 7))
			a.log(t, i)
		}
		a.holds(t, "live already")
	}
	if a.d.Writes() != 6 || len(a.r.Live()) != 6 {
		t.Errorf("9.1: live already: %d Writes, %d live", a.d.Writes(), len(a.r.Live()))
	}
	a.next(t, "behind some that were live", 86, 7)
	// Released, it is live no more, and is written again.
	if a.release(t, 3, 1) != 4 {
		t.Error("9.1: Release of one stripe and gen, four with unlike bytes")
	}
	if e := a.log(t, some(3, 1, 7)); e != api.OK || a.d.Writes() != 8 {
		t.Errorf("9.1: Log of one that was released: %d, %d Writes", e, a.d.Writes())
	}
	a.gens(t, "logged again", 2, 1, 12345, 1)
}

// TestOrder: Live hangs on the numbers, not on the blocks, nor on stripes and gens.
func TestOrder(t *testing.T) {
	a := fresh(t)
	for _, gen := range []int{9, 3, 7, 5} {
		a.log(t, some(gen, gen, gen))
	}
	a.gens(t, "logged", 9, 3, 7, 5)
	a.release(t, 9, 9)
	a.release(t, 7, 7)
	a.gens(t, "two released", 3, 5)
	a.log(t, some(1, 8, 1))
	a.log(t, some(39, 2, 1))
	a.log(t, some(0, 1, 1))
	a.gens(t, "into the free ones", 3, 5, 8, 2, 1)
	if !slices.Equal(a.d.Pending(), []int{80, 81, 82, 83, 80, 82, 84}) {
		t.Errorf("9.1: the first block that no live one stands in: %v", a.d.Pending())
	}
	a.open(t)
	a.gens(t, "opened again", 3, 5, 8, 2, 1)
	a.next(t, "opened again", 85, 8)
}

// TestRelease: of some, of all, of none, and of what is not live.
func TestRelease(t *testing.T) {
	a := fresh(t)
	for n := range 16 {
		a.log(t, some(n%4, 1+n/4%2, n))
	}
	for _, c := range [][2]int{{4, 1}, {0, 3}, {0, 0}, {-1, 1}, {0, -1}, {39, maxGen}, {40, 1}, {1 << 32, 1}, {0, 1<<48 + 1}, {256, 1}, {math.MinInt, math.MinInt}, {math.MaxInt, math.MaxInt}, {1, 4}} {
		if a.release(t, c[0], c[1]) != 0 {
			t.Errorf("9.1: Release(%d, %d): not 0", c[0], c[1])
		}
		a.holds(t, "Release of none")
	}
	for k, c := range [][2]int{{2, 1}, {0, 2}, {3, 2}, {1, 1}, {0, 1}, {1, 2}, {2, 2}, {3, 1}} {
		if a.release(t, c[0], c[1]) != 2 || a.release(t, c[0], c[1]) != 0 || a.r.Free() != 2*k+2 {
			t.Errorf("9.1: Release of stripe %d, gen %d", c[0], c[1])
		}
		a.holds(t, "Release of some")
	}
	a.gens(t, "Release of all")
	for n := range 16 {
		a.next(t, "Log behind a Release of all", 80+n, 17+n)
	}
	if a.release(t, 11, 12345) != 16 || a.r.Free() != 16 {
		t.Error("9.1: Release of all at once")
	}
	a.next(t, "Log behind a Release of all at once", 80, 33)
}

// TestReleaseEdges: the least and the greatest stripe and gen.
func TestReleaseEdges(t *testing.T) {
	a := fresh(t)
	for _, stripe := range []int{0, 39} {
		for _, gen := range []int{1, 2, maxGen - 1, maxGen} {
			a.log(t, some(stripe, gen, 3))
		}
	}
	for _, c := range [][2]int{{39, maxGen}, {0, 1}, {0, maxGen}, {39, 1}} {
		if a.release(t, c[0], c[1]) != 1 {
			t.Errorf("9.1: Release(%d, %d): not 1", c[0], c[1])
		}
	}
	a.gens(t, "Release at the edges", 2, maxGen-1, 2, maxGen-1)
}

// TestFull: a full ring, and one short of it, whichever block is free.
func TestFull(t *testing.T) {
	for free := range 16 {
		a := fresh(t)
		for n := range 16 {
			if a.log(t, some(n, 1, n)); a.r.Free() != 15-n {
				t.Errorf("9.1: Free behind %d Logs: %d", n+1, a.r.Free())
			}
		}
		for n := range 16 {
			if e := a.log(t, some(n, 1, n)); e != api.OK {
				t.Errorf("9.1: Log of one that is live, in a full ring: %d", e)
			}
			if e := a.log(t, some(n, 2, n)); e != api.ErrFull {
				t.Errorf("9.1: Log in a full ring: %d", e)
			}
		}
		a.holds(t, "full")
		a.open(t)
		a.holds(t, "full, opened again")
		a.release(t, free, 1)
		if a.r.Free() != 1 {
			t.Errorf("9.1: one short of full: Free %d", a.r.Free())
		}
		a.next(t, "one short of full", 80+free, 17)
		if e := a.log(t, some(20, 1, 0)); e != api.ErrFull {
			t.Errorf("9.1: Log in a ring that is full again: %d", e)
		}
		a.holds(t, "full again")
	}
}

// TestOpened: a ring opened again behind a Flush, Crashes that keep all, some, none, and a Wipe.
func TestOpened(t *testing.T) {
	for keep := range 16 {
		a := fresh(t)
		for gen := 1; gen <= 3; gen++ {
			a.log(t, some(5, gen, gen))
		}
		a.flush()
		a.open(t)
		a.gens(t, "behind a Flush", 1, 2, 3)
		a.release(t, 5, 1)
		for gen := 4; gen <= 7; gen++ {
			a.log(t, some(5, gen, gen))
		}
		a.gens(t, "pending", 2, 3, 4, 5, 6, 7)
		var numbers []int
		want := []int{2, 3}
		if keep&1 == 0 {
			want = []int{1, 2, 3}
		}
		for n := range 4 {
			if keep>>n&1 == 1 {
				numbers = append(numbers, n)
				want = append(want, 4+n)
			}
		}
		a.crash(numbers...)
		a.holds(t, "behind a Crash, not opened")
		a.open(t)
		a.gens(t, "behind a Crash", want...)
		at := slices.IndexFunc([]int{80, 81, 82, 83, 84, 85, 86}, func(k int) bool { return a.m.stands(k).number == 0 })
		a.next(t, "behind a Crash", 80+at, want[len(want)-1]+1)
		a.wipe()
		a.holds(t, "behind a Wipe, not opened")
		a.open(t)
		a.gens(t, "behind a Wipe")
		a.next(t, "behind a Wipe", 80, 1)
		a.crash()
		a.open(t)
		a.gens(t, "behind a Wipe, and a Crash of nothing")
		a.next(t, "behind a Wipe, and a Crash of nothing", 80, 1)
	}
}

// TestReleaseUndone: a block is not turned by a Release, so a new Open tells what stands in it, and numbers go on behind it.
func TestReleaseUndone(t *testing.T) {
	a := fresh(t)
	for gen := 1; gen <= 5; gen++ {
		a.log(t, some(5, gen, gen))
	}
	a.release(t, 5, 5)
	a.release(t, 5, 2)
	a.gens(t, "released", 1, 3, 4)
	a.open(t)
	a.gens(t, "opened anew", 1, 2, 3, 4, 5)
	a.next(t, "opened anew", 85, 6)
	for gen := 1; gen <= 5; gen++ {
		a.release(t, 5, gen)
	}
	a.release(t, 11, 12345)
	a.gens(t, "all released")
	// The number of one that was released is not used again.
	a.next(t, "all released", 80, 7)
	a.open(t)
	a.gens(t, "opened anew, one block turned", 2, 3, 4, 5, 12345, 12345)
}

// TestTwoOfOneNumber: in the order of their blocks.
func TestTwoOfOneNumber(t *testing.T) {
	a := fresh(t)
	for _, x := range []struct{ at, number, gen int }{{95, 4, 1}, {80, 4, 2}, {88, 9, 3}, {81, 9, 4}, {87, 4, 5}, {94, 1, 6}, {82, 12, 7}} {
		a.stray(t, x.at, x.number, some(x.gen, x.gen, x.gen))
	}
	a.open(t)
	a.gens(t, "numbers that were told twice", 6, 2, 5, 1, 4, 3, 7)
	a.next(t, "numbers that were told twice", 83, 13)
	// All sixteen with one number, and one intent.
	for at := 95; at >= 80; at-- {
		a.stray(t, at, 3, some(at-80, 100+at, at))
	}
	a.open(t)
	a.gens(t, "one number all over", 180, 181, 182, 183, 184, 185, 186, 187, 188, 189, 190, 191, 192, 193, 194, 195)
	for at := 80; at < 96; at++ {
		a.stray(t, at, 3, some(7, 7, 7))
	}
	a.open(t)
	a.holds(t, "one intent all over")
	if e := a.log(t, some(7, 7, 7)); e != api.OK || a.release(t, 7, 7) != 16 {
		t.Errorf("9.1: one intent all over: %d", e)
	}
	a.next(t, "one intent all over, released", 80, 4)
}

// TestNumbers: each place of a number, the last one, and 0.
func TestNumbers(t *testing.T) {
	for bits := range 48 {
		for _, number := range []int{1 << bits, 1<<bits + 1, 1<<(bits+1) - 2} {
			if number < 1 || number >= maxNumber {
				continue
			}
			a := fresh(t)
			a.stray(t, 90, number, some(3, 3, 3))
			a.open(t)
			a.gens(t, "one number", 3)
			a.next(t, "one number", 80, number+1)
		}
	}
	a := fresh(t)
	a.stray(t, 90, 0, some(3, 3, 3))
	a.open(t)
	a.gens(t, "the number 0")
	a.next(t, "the number 0", 80, 1)
}

// TestLastNumber: behind it there is none, till the ring is opened without it.
func TestLastNumber(t *testing.T) {
	a := fresh(t)
	a.stray(t, 80, maxNumber-2, some(1, 1, 1))
	a.open(t)
	a.next(t, "the last but one", 81, maxNumber-1)
	a.next(t, "the last", 82, maxNumber)
	for _, i := range []api.Intent{some(1, 2, 1), some(39, maxGen, 3)} {
		if e := a.log(t, i); e != api.ErrFull {
			t.Errorf("9.1: Log with no number left: %d", e)
		}
	}
	if e := a.log(t, some(1, 1, 1)); e != api.OK {
		t.Errorf("9.1: Log of one that is live, with no number left: %d", e)
	}
	a.wrong(t, some(40, 1, 1))
	a.holds(t, "no number left")
	// A Release gives no number back.
	if a.release(t, 11, 12345) != 2 || a.release(t, 1, 1) != 1 {
		t.Error("9.1: Release with no number left")
	}
	if e := a.log(t, some(1, 2, 1)); e != api.ErrFull {
		t.Errorf("9.1: Log with no number left, all released: %d", e)
	}
	a.gens(t, "no number left, all released")
	a.open(t)
	a.gens(t, "no number left, opened again", 1, 12345, 12345)
	if e := a.log(t, some(1, 2, 1)); e != api.ErrFull {
		t.Errorf("9.1: Log with no number left, opened again: %d", e)
	}
	a.crash(0, 1)
	a.open(t)
	a.next(t, "the last one is gone", 82, maxNumber)
}

// TestPlatters: of just as many blocks as a node's.
func TestPlatters(t *testing.T) {
	for _, blocks := range []int{-1, 0, 1, 2, 15, 16, 17, 79, 80, 81, 94, 95, 97, 98, 112, 192, 1000} {
		d := platter.New(blocks)
		if r, e := intent.Open(d); e != api.ErrArg || r != nil || d.Writes() != 0 {
			t.Errorf("9.1, R3: Open of %d blocks: %v %d", blocks, r, e)
		}
	}
	if r, e := intent.Open(nil); e != api.ErrArg || r != nil {
		t.Errorf("9.1: Open of no platter: %v %d", r, e)
	}
	if r, e := intent.Open(&platter.Platter{}); e != api.ErrArg || r != nil {
		t.Errorf("R1: Open of a platter that New did not make: %v %d", r, e)
	}
	fresh(t).gens(t, "96 blocks")
}

// TestNone: a nil ring, and one that Open did not make.
func TestNone(t *testing.T) {
	for what, r := range map[string]*intent.Ring{"nil": nil, "not opened": {}} {
		for _, i := range append(wrongs(), some(1, 1, 1), some(39, maxGen, 2)) {
			if e := r.Log(i); e != api.ErrArg {
				t.Errorf("R1: Log in a ring that is %s: %d", what, e)
			}
		}
		if r.Release(1, 1) != 0 || r.Release(0, 0) != 0 || len(r.Live()) != 0 || r.Free() != 0 {
			t.Errorf("R1: a ring that is %s: %v", what, r.Live())
		}
	}
}

// TestWhere: intents are told from the ring's sixteen blocks, and from no other.
func TestWhere(t *testing.T) {
	for at := range 96 {
		a := fresh(t)
		a.stray(t, at, 50, some(3, 4, 5))
		a.open(t)
		a.holds(t, "an intent in one block")
		if at < 80 {
			a.gens(t, "an intent before the ring")
			a.next(t, "an intent before the ring", 80, 1)
		} else {
			a.gens(t, "an intent in the ring", 4)
		}
	}
	a := fresh(t)
	for at := range 80 {
		a.stray(t, at, 900+at, some(at%40, 1+at, at))
	}
	a.open(t)
	for n := range 16 {
		a.next(t, "all blocks before the ring", 80+n, 1+n)
	}
}

// none checks that a block of the ring is no intent, that the one beside it is live, and that it is written over.
func none(t *testing.T, what string, block []byte) {
	t.Helper()
	a := fresh(t)
	a.stray(t, 81, 7, some(8, 9, 1))
	a.raw(t, 80, block, 0, api.Intent{})
	a.open(t)
	a.gens(t, what, 9)
	a.next(t, what, 80, 8)
}

// TestNoIntent: blocks of the ring that are none.
func TestNoIntent(t *testing.T) {
	good := some(5, 6, 2)
	none(t, "0s", make([]byte, 160))
	none(t, "255s", bytes.Repeat([]byte{255}, 160))
	for kind := 1; kind < 256; kind++ {
		if kind != 2 {
			none(t, fmt.Sprint("kind ", kind), sealed(t, kind, bodyOf(70, good)))
		}
	}
	for n := range 154 {
		if n != 141 {
			long := append(bodyOf(70, good), make([]byte, 153)...)
			none(t, fmt.Sprint("a body of bytes, ", n), sealed(t, 2, long[:n]))
		}
	}
	for n := 40; n < 256; n++ {
		none(t, fmt.Sprint("stripe ", n), sealed(t, 2, bodyOf(70, some(n, 6, 1))))
	}
	for _, gen := range []int{0, maxGen + 1, maxGen + 255, maxGen + 256, 2 * maxGen, 2*maxGen + 1, 255 * maxGen, 1<<48 - 1} {
		none(t, fmt.Sprint("gen ", gen), sealed(t, 2, bodyOf(70, some(5, gen, 1))))
	}
	none(t, "the number 0", sealed(t, 2, bodyOf(0, good)))
	none(t, "a piece", sealed(t, 1, append([]byte{5, 0, 0, 0, 0, 0, 6, 1}, data(1)[:32]...)))
}

// TestTurned: a block of the ring of which one byte was turned is none.
func TestTurned(t *testing.T) {
	for _, i := range []api.Intent{some(0, 1, 0), some(39, maxGen, 5), some(20, 258, 2)} {
		block := laid(t, 258, i)
		for k := range block {
			for _, by := range []byte{1, 2, 4, 8, 16, 32, 64, 128, 255} {
				turned := bytes.Clone(block)
				turned[k] ^= by
				d := platter.New(96)
				d.Write(80+k%16, turned)
				r, e := intent.Open(d)
				if e != api.OK || len(r.Live()) != 0 || r.Free() != 16 {
					t.Fatalf("9.1: byte %d turned by %d: %d %v", k, by, e, r.Live())
				}
				d.Write(80+k%16, block)
				r, _ = intent.Open(d)
				if l := r.Live(); len(l) != 1 || !same(l[0], i) {
					t.Fatalf("9.1: byte %d turned back: %v", k, l)
				}
			}
		}
	}
}

// TestAny: sealed bytes in disorder are intents just where 9.1 says.
func TestAny(t *testing.T) {
	for seed := range 600 {
		a := fresh(t)
		for at := 80; at < 96; at++ {
			x := data(seed*2654435 + at)
			i := api.Intent{Stripe: int(x[1] % 50), Gen: int(x[2]%2)<<40 + int(x[3]%3), Data: data(seed)[:128-int(x[5]%4)/3]}
			kind, number := 2-int(x[6]%5)/4, int(x[7]%20)
			block := sealed(t, kind, bodyOf(number, i))
			if kind != 2 || i.Stripe > 39 || i.Gen < 1 || i.Gen > maxGen || len(i.Data) != 128 {
				number = 0
			}
			a.raw(t, at, block, number, i)
		}
		a.open(t)
		a.holds(t, "any bytes")
		a.log(t, some(1, 500, seed))
		a.holds(t, "any bytes, and one logged")
	}
}

// dice are numbers in a disorder that is the same each time.
type dice uint32

// roll is one of 0 to n - 1.
func (d *dice) roll(n int) int {
	*d = *d*1664525 + 1013904223
	return int(*d>>8) % n
}

// step does one of all things that may be done to a pair; stripes, gens and bytes are few, so that they meet.
func (a *pair) step(t *testing.T, d *dice) {
	t.Helper()
	i := some(d.roll(4)*13, 1+d.roll(5), d.roll(3))
	switch d.roll(24) {
	case 0, 1:
		a.flush()
	case 2:
		var keep []int
		for range d.roll(8) {
			keep = append(keep, d.roll(len(a.m.pending)+2)-1)
		}
		a.crash(keep...)
		if d.roll(4) > 0 {
			a.open(t)
		}
	case 3:
		if d.roll(6) == 0 {
			a.wipe()
			a.open(t)
		}
	case 4:
		a.open(t)
	case 5:
		a.stray(t, 80+d.roll(16), 1+d.roll(60), i)
	case 6:
		a.raw(t, 70+d.roll(26), make([]byte, 160), 0, api.Intent{})
	case 7:
		i.Stripe, i.Gen = i.Stripe-40*d.roll(2), i.Gen*d.roll(2)
		i.Data = i.Data[:127+d.roll(2)]
		if !(i.Stripe >= 0 && i.Gen > 0 && len(i.Data) == 128) {
			a.wrong(t, i)
		}
	case 8, 9, 10, 11:
		a.release(t, i.Stripe, i.Gen)
	default:
		a.log(t, i)
	}
}

// TestRuns: runs of many calls, each against a plain list of what was logged, and each done twice (R4), on rings that know nothing of one another (R7).
func TestRuns(t *testing.T) {
	full := 0
	for run := range 40 {
		d, again := dice(run), dice(run)
		a, b := fresh(t), fresh(t)
		for range 250 {
			a.step(t, &d)
			a.holds(t, "a run")
			if a.r.Free() == 0 {
				full++
			}
		}
		for range 250 {
			b.step(t, &again)
		}
		b.holds(t, "the same run again")
		a.holds(t, "the run, behind the same one on another platter")
		if !slices.EqualFunc(blocksOf(a.d), blocksOf(b.d), bytes.Equal) {
			t.Error("R4: the same run again led to other blocks")
		}
	}
	if full == 0 {
		t.Error("no run led to a full ring: the runs do not ask enough")
	}
}

// TestTwoRings: two rings over one platter know nothing of one another (R7); each tells what it was told.
func TestTwoRings(t *testing.T) {
	a := fresh(t)
	a.log(t, some(1, 1, 1))
	b := &pair{d: a.d, m: &plain{done: a.m.done, pending: slices.Clone(a.m.pending)}}
	b.open(t)
	b.log(t, some(2, 2, 2))
	b.release(t, 1, 1)
	b.gens(t, "the second ring", 2)
	if l := a.r.Live(); len(l) != 1 || !same(l[0], some(1, 1, 1)) || a.r.Free() != 15 {
		t.Errorf("R7: the first ring tells %v", l)
	}
	if e := a.r.Log(some(3, 3, 3)); e != api.OK {
		t.Errorf("9.1: Log in the first ring: %d", e)
	}
	if got, _ := a.d.Read(81); !bytes.Equal(got, laid(t, 2, some(3, 3, 3))) {
		t.Errorf("R7: the first ring's next number and block: %v", got)
	}
	if l := b.r.Live(); len(l) != 1 || !same(l[0], some(2, 2, 2)) || b.r.Free() != 15 {
		t.Errorf("R7: the second ring tells %v", l)
	}
}

// TestAsTold: what is live hangs on what the ring was told, not on what becomes of its blocks, till it is opened anew.
func TestAsTold(t *testing.T) {
	a := fresh(t)
	a.log(t, some(1, 1, 1))
	a.log(t, some(2, 2, 2))
	a.raw(t, 80, make([]byte, 160), 0, api.Intent{})
	a.stray(t, 82, 90, some(3, 3, 3))
	a.gens(t, "blocks written past the ring", 1, 2)
	a.next(t, "blocks written past the ring", 82, 3)
	a.open(t)
	a.gens(t, "opened anew", 2, 12345)
}

// guarded is a list with three places of spare room, whose bytes are 0xa5.
func guarded(b []byte) []byte { return append(bytes.Clone(b), 0xa5, 0xa5, 0xa5)[:len(b)] }

// kept checks that l, that guarded made of b, is as it was, its spare room too.
func kept(t *testing.T, what string, l, b []byte) {
	t.Helper()
	if !bytes.Equal(l, b) || string(l[:len(l)+3][len(l):]) != "\xa5\xa5\xa5" {
		t.Errorf("R2: %s: what was given is turned: %v, not %v", what, l[:len(l)+3], b)
	}
}

// scribble writes over a list, and over its spare room.
func scribble(b []byte) {
	b = b[:cap(b)]
	for k := range b {
		b[k] ^= 0x5a
	}
}

// TestLogKept: what is logged is as it was, and what is written to it afterwards is not told.
func TestLogKept(t *testing.T) {
	a := fresh(t)
	for gen := 1; gen < 5; gen++ {
		was := data(gen)
		i := api.Intent{Stripe: 5, Gen: gen, Data: guarded(was)}
		for range 2 {
			if e := a.r.Log(i); e != api.OK {
				t.Fatalf("9.1: Log: %d", e)
			}
			intent.Right(i)
			intent.Same(i, i)
			kept(t, "Log", i.Data, was)
		}
		scribble(i.Data)
		a.m.log(t, some(5, gen, gen))
		a.holds(t, "what was logged is written to, R2")
		if b, _ := a.d.Read(79 + gen); !bytes.Equal(b, laid(t, gen, some(5, gen, gen))) {
			t.Errorf("R2: what was logged is written to: block %v", b)
		}
	}
	wrong := guarded(data(1))
	a.r.Log(api.Intent{Stripe: 40, Gen: 1, Data: wrong})
	a.r.Log(api.Intent{Stripe: 1, Gen: 0, Data: wrong})
	(*intent.Ring)(nil).Log(api.Intent{Stripe: 1, Gen: 1, Data: wrong})
	for n := range 20 {
		a.r.Log(api.Intent{Stripe: n, Gen: 9, Data: wrong})
	}
	kept(t, "Log of a wrong one, and in a full ring", wrong, data(1))
	for n := range 129 {
		short := guarded(make([]byte, n))
		a.r.Log(api.Intent{Stripe: 1, Gen: 1, Data: short})
		kept(t, "Log of any length", short, make([]byte, n))
	}
}

// TestLiveKept: what is told is not shared, neither with the ring nor within the answer, nor with another one.
func TestLiveKept(t *testing.T) {
	a := fresh(t)
	a.log(t, some(5, 1, 1))
	a.log(t, some(5, 2, 2))
	for range 2 {
		one, other := a.r.Live(), a.r.Live()
		scribble(one[0].Data)
		if !same(one[1], some(5, 2, 2)) {
			t.Errorf("R2: two intents of one answer share memory: %v", one[1])
		}
		scribble(one[1].Data)
		one = one[:cap(one)]
		for k := range one {
			one[k] = api.Intent{Stripe: 9}
		}
		if len(other) != 2 || !same(other[0], some(5, 1, 1)) || !same(other[1], some(5, 2, 2)) {
			t.Errorf("R2: two answers of Live share memory: %v", other)
		}
		a.holds(t, "what was told is written to, R2")
		// What is live behind an Open is not shared either.
		a.open(t)
	}
	// What was told stays as it was, whatever becomes of the ring.
	l := a.r.Live()
	a.release(t, 5, 1)
	a.log(t, some(6, 6, 6))
	a.wipe()
	a.open(t)
	if len(l) != 2 || !same(l[0], some(5, 1, 1)) || !same(l[1], some(5, 2, 2)) {
		t.Errorf("R2: what was told is turned: %v", l)
	}
}
